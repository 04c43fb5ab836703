/- The document's Apply: a commit that is taken. -/
import Derived.Test.YtdnpbhijjmlecaaZ13
import Derived.Test.YtdnpbhijjmlecaaZ16
namespace Go.Proofs.Ytdnpbhijjmlecaa
open Go.RowKit Go.Maps
set_option maxRecDepth 100000
set_option linter.unusedSimpArgs false
set_option linter.unusedVariables false

theorem own_is {g n c k : Nat} (h : (Value.slice (some ⟨g, 0, none⟩) n c).ownBlock = some k) : g = k := by cases h; rfl
def remO (l : List Mb) (c : Int) : List Mb := l.filter (fun y => !(y.id == c))
theorem remO_take (l : List Mb) (c : Int) (k : Nat) (hk : k < l.length) : remO (l.take (k + 1)) c = if l[k].id = c then remO (l.take k) c else remO (l.take k) c ++ [l[k]] := by
  unfold remO
  rw [List.take_succ_eq_append_getElem hk, List.filter_append]
  by_cases e : l[k].id = c
  · rw [if_pos e]; simp [e]
  · rw [if_neg e]; simp [e]
theorem remO_le (l : List Mb) (c : Int) : (remO l c).length ≤ l.length := List.length_filter_le _ _
theorem DgR.setOffs {w : World} {b : Nat} {n : ByteArray} {vm vp vo vn v : Value} {d : Dg} (h : DgR w b n vm vp vo vn d) (hpa : In (fun k => k ≠ b) vp d.parts) (hm : vm.ownBlock ≠ some b) (hn : vn.ownBlock ≠ some b) (l : List Mb) (hr : w.ownsRow 0 65 2 v l.length (flatM l)) (hv : v.ownBlock ≠ some b) (h64 : ∀ m ∈ l, I64 m.id ∧ I64 m.num) : DgR (w.setCell ⟨b, 5, none⟩ v) b n vm vp v vn { d with offs := l } ∧ Keeps (fun k => k = b) w (w.setCell ⟨b, 5, none⟩ v) := by
  have hk : Keeps (fun k => k = b) w (w.setCell ⟨b, 5, none⟩ v) := Keeps.set (S := fun k => k = b) w (a := ⟨b, 5, none⟩) rfl v
  have hc := set_box (j := 5) (v := v) h.cells
  generalize w.setCell ⟨b, 5, none⟩ v = W at *
  have kb : ∀ k, k < w.heap.size → k ≠ b → W.heap[k]? = w.heap[k]? := fun k h1 h2 => hk.block k h1 h2
  exact ⟨⟨hc, row_kept h.mem (fun k hk' => kb k (row_lt h.mem hk') (fun e => hm (by rw [hk', e]))), h.m64, h.few, h.parts.kept (X := fun k => k ≠ b ∧ k < w.heap.size) (fun hne b' off n' c' e => ⟨hpa hne b' off n' c' e, h.parts.old hne b' off n' c' e⟩) (fun k hk' => kb k hk'.2 hk'.1) hk.size, row_kept hr (fun k hk' => kb k (row_lt hr hk') (fun e => hv (by rw [hk', e]))), row_kept h.nums (fun k hk' => kb k (row_lt h.nums hk') (fun e => hn (by rw [hk', e]))), h64, h.n64⟩, hk⟩
theorem DgR.setNums {w W3 W4 : World} {b : Nat} {n : ByteArray} {vm vp vo vn v : Value} {d : Dg} (h : DgR w b n vm vp vo vn d) (hpa : In (fun k => k ≠ b ∧ vn.ownBlock ≠ some k) vp d.parts) (hm : vm.ownBlock ≠ some b) (ho : vo.ownBlock ≠ some b) (hn : vn.ownBlock ≠ some b) (hmn : ∀ k, vm.ownBlock = some k → vn.ownBlock ≠ some k) (hon : ∀ k, vo.ownBlock = some k → vn.ownBlock ≠ some k) (l : List Mb) (hr : W3.ownsRow 0 65 2 v l.length (flatM l)) (hv : v.ownBlock ≠ some b) (h64 : ∀ m ∈ l, I64 m.id ∧ I64 m.num) (h3 : Keeps (fun k => vn.ownBlock = some k) w W3) (e4 : W4 = W3.setCell ⟨b, 6, none⟩ v) : DgR W4 b n vm vp vo v { d with nums := l } ∧ Keeps (fun k => k = b ∨ vn.ownBlock = some k) w W4 := by
  subst e4
  have hk4 : Keeps (fun k => k = b) W3 (W3.setCell ⟨b, 6, none⟩ v) := Keeps.set (S := fun k => k = b) W3 (a := ⟨b, 6, none⟩) rfl v
  have hk : Keeps (fun k => k = b ∨ vn.ownBlock = some k) w (W3.setCell ⟨b, 6, none⟩ v) := (h3.mono (fun k h => .inr h)).trans hk4 (fun k e => .inl (.inl e))
  have hc3 := (h3.block b h.lt hn).trans h.cells
  have hc := set_box (j := 6) (v := v) hc3
  generalize W3.setCell ⟨b, 6, none⟩ v = W at *
  have kb : ∀ k, k < w.heap.size → k ≠ b → vn.ownBlock ≠ some k → W.heap[k]? = w.heap[k]? := fun k h1 h2 h4 => hk.block k h1 (fun e => e.elim h2 h4)
  exact ⟨⟨hc, row_kept h.mem (fun k hk' => kb k (row_lt h.mem hk') (fun e => hm (by rw [hk', e])) (hmn k hk')), h.m64, h.few, h.parts.kept (X := fun k => (k ≠ b ∧ vn.ownBlock ≠ some k) ∧ k < w.heap.size) (fun hne b' off n' c' e => ⟨hpa hne b' off n' c' e, h.parts.old hne b' off n' c' e⟩) (fun k hk' => kb k hk'.2 hk'.1.1 hk'.1.2) hk.size, row_kept h.offs (fun k hk' => kb k (row_lt h.offs hk') (fun e => ho (by rw [hk', e])) (hon k hk')), row_kept hr (fun k hk' => hk4.block k (row_lt hr hk') (fun e => hv (by rw [hk', e]))), h.o64, h64⟩, hk⟩
set_option maxHeartbeats 3200000 in
theorem rcommit_any {w : World} {r : Nat} {vl : Value} {es : List Ent} {ep : Int} (h : DC w r vl es ep) (hf : es.length ≤ 1000) (m : Rc) (la : Option Addr) (lc : Nat) (x : Ent) (hx : findX es m.name = some x) (h1 : ¬ m.kind = 1) (h5 : ¬ m.kind = 5) (h2 : ¬ m.kind < 2) (h6 : ¬ 6 < m.kind) (h4 : ¬ m.kind = 4) (hk2 : ¬ m.kind = 2) (hb : hasB x.d.mem m.a = true) (hg : m.b = x.d.gen) (hk6 : ¬ m.kind = 6) (hl : IL w (.slice la m.list.length lc) m.list) (y : Int) (hy : m.list = [y]) (hd0 : ¬ m.d < 0) (hd1 : ¬ 1000000000 < m.d) (hy0 : ¬ y < 0) (hy1 : ¬ 1000000000 < y) (hnl : x.d.nums.length ≤ 100000) (hol : x.d.offs.length ≤ 100000) (hdup : ¬ y ≤ lastK (-1) x.d.nums m.a) (hown : ownD x.d.mem x.d.parts m.c x.d.mem = m.a) (hpa : In (fun k => k ≠ x.b ∧ x.vn.ownBlock ≠ some k) x.vp x.d.parts) (hmb : x.vm.ownBlock ≠ some x.b) (hob : x.vo.ownBlock ≠ some x.b) (hnb : x.vn.ownBlock ≠ some x.b) (hmn : ∀ k, x.vm.ownBlock = some k → x.vn.ownBlock ≠ some k) (hlx : In (fun k => k ≠ x.b ∧ x.vn.ownBlock ≠ some k) (.slice la m.list.length lc) m.list) (hrc : RcOk m) : Calls Try.prog 13 #[.pointer (some ⟨r, 0, none⟩), recV m (.slice la m.list.length lc)] w fun e w' => ∃ vo' vn', Keeps (fun k => k = x.b ∨ x.vn.ownBlock = some k) w w' ∧ DgR w' x.b x.n x.vm x.vp vo' vn' (commitD x.d m) ∧ (∀ k, vo'.ownBlock = some k → w.heap.size ≤ k) ∧ (∀ k, vn'.ownBlock = some k → x.vn.ownBlock = some k ∨ w.heap.size ≤ k) ∧ (∀ k, vo'.ownBlock = some k → vn'.ownBlock ≠ some k) ∧ ToldP (fun b => w.heap.size ≤ b) w' ⟨0, m.a, x.d.gen, m.d, []⟩ e := by
  have HC := hid h
  have HFX := hid hx
  have hmem := findX_mem hx
  have HMEM := hid hmem
  have HHB := hid hb
  clear hb
  obtain ⟨g, hgE⟩ : ∃ g, g = x.d.gen := ⟨_, rfl⟩
  have HGM : Hid (m.b = g) := hg.trans hgE.symm
  have HGE := hid hgE
  clear hgE hg
  have HY := hid hy
  clear hy
  obtain ⟨nn, hnE⟩ : ∃ nn, nn = lastK (-1) x.d.nums m.a := ⟨_, rfl⟩
  rw [← hnE] at hdup
  have HNN := hid hnE
  have HDUP := hid hdup
  have HOWN := hid hown
  clear hnE hdup hown
  have hT := tb8_new (fun _ => False) w (recA m (.slice la m.list.length lc)) zTd
  have HT := hid hT
  unfold recV recA zTd at *
  go_enter Try.func13, Try.ntmps13
  go_upto_region 1 with fail
  generalize (w.alloc (.cells #[.int .i64 m.kind, .int .i64 m.a, .int .i64 m.b, .int .i64 m.c, .int .i64 m.d, .string m.name, .string m.text, .slice la m.list.length lc] 32)).alloc (.cells #[.int .i64 0, .int .i64 0, .int .i64 0, .int .i64 0, .slice none 0 0] 38) = W at *
  have a0 := cell_blk HT.out.x 0 _ rfl
  have a1 := cell_blk HT.out.x 1 _ rfl
  have a2 := cell_blk HT.out.x 2 _ rfl
  have a3 := cell_blk HT.out.x 3 _ rfl
  have a4 := cell_blk HT.out.x 4 _ rfl
  have a5 := cell_blk HT.out.x 5 _ rfl
  have a6 := cell_blk HT.out.x 6 _ rfl
  have a7 := cell_blk HT.out.x 7 _ rfl
  have z0 := cell_blk HT.out.z 0 _ rfl
  have z1 := cell_blk HT.out.z 1 _ rfl
  have z2 := cell_blk HT.out.z 2 _ rfl
  have z3 := cell_blk HT.out.z 3 _ rfl
  have z4 := cell_blk HT.out.z 4 _ rfl
  have fz := frz_blk HT.out.z
  clear hT
  have HF := hid (rfind_any (HC.out.under HT.out.k.base) hf m.name)
  rw [HFX.out] at HF
  unfold findV at HF
  have HE : Hid (DgR W x.b x.n x.vm x.vp x.vo x.vn x.d) := (HC.out.each x hmem).under HT.out.k.base
  have hbl : x.b < w.heap.size := DgR.lt (HC.out.each x hmem)
  have hn1 : ¬ x.b = w.heap.size := by omega
  have hn2 : ¬ w.heap.size = x.b := by omega
  have hn3 : ¬ x.b = w.heap.size + 1 := by omega
  have hn4 : ¬ w.heap.size + 1 = x.b := by omega
  have c1 := HE.out.c1
  have c3 := HE.out.c3
  have hB0 : Below W.heap.size W W := Below.refl _ _
  clear h hx hmem
  obtain ⟨j0, hj0, hj1, hj2, hj3⟩ := info65
  have hlen0 : m.list.length = 1 := by rw [HY.out]; rfl
  obtain ⟨lb0, lo0, hla0, _⟩ := (hl.under HT.out.k.base).cellAt 0 (by omega)
  have hlb : lb0 ≠ x.b ∧ x.vn.ownBlock ≠ some lb0 := hlx (by rw [HY.out]; simp) lb0 lo0 _ _ (by rw [hla0])
  have hlbl : lb0 < w.heap.size := hl.old (by rw [HY.out]; simp) lb0 lo0 _ _ (by rw [hla0])
  have HLB := hid hlb
  clear hlx hlb
  rw [← HGE.out] at c1
  rw [HGM.out] at a2
  have hlen : m.list.length = 1 := by rw [HY.out]; rfl
  obtain ⟨lb, lo, rfl, hlc⟩ := (hl.under HT.out.k.base).cellAt 0 (by omega)
  have hy3 : m.list[0] = y := by simp [HY.out]
  rw [hy3, Nat.add_zero] at hlc
  clear hy3 hl
  rw [hlen] at a7
  have HLEN := hid hlen
  have hsl : Hid (W.cell? ⟨w.heap.size, 7, none⟩ = some (.slice (some ⟨lb, lo, none⟩) 1 lc)) := a7
  have HLC := hid hlc
  obtain ⟨rfl, rfl⟩ : lb = lb0 ∧ lo = lo0 := by cases hla0; exact ⟨rfl, rfl⟩
  clear hla0
  have HH : Hid (∀ V, Below W.heap.size W V → Calls Try.prog 28 #[x.vm, .int .i64 m.a] V fun e w' => e = .returned (.bool true) ∧ V = w') := fun V hV => by
    have := rhas_any (HE.out.il.under hV) m.a
    rw [HHB.out] at this
    exact this
  go_wp2_with fail
  refine HF.out.mono ?_
  rintro e w1 ⟨rfl, rfl⟩
  go_wp2_with fail
  go_region_held3 (fun V => V.cell? ⟨x.b, 3, none⟩ = some x.vm ∧ V.cell? ⟨w.heap.size, 1, none⟩ = some (.int .i64 m.a)) (go_keep)
    (first | (go_at_call 28; refine (HH.out _ (by first | exact hB0 | exact hB0.drew)).mono ?_; rintro e w1 ⟨rfl, rfl⟩) | fail)
  go_wp2_with fail
  go_region_held3 (fun V => V.cell? ⟨x.b, 1, none⟩ = some (.int .i64 g) ∧ V.cell? ⟨w.heap.size, 2, none⟩ = some (.int .i64 g)) (go_keep) (fail)
  go_wp2_with fail
  have HN : Hid (∀ V, Below W.heap.size W V → Calls Try.prog 30 #[.pointer (some ⟨x.b, 0, none⟩), .int .i64 m.a] V fun e w' => e = .returned (.int .i64 nn) ∧ V = w') := by rw [HNN.out]; exact fun V hV => rnumber_any (HE.out.under hV) hnl m.a
  have hdup := HDUP.out
  go_region_held3 (fun V => V.cell? ⟨w.heap.size, 7, none⟩ = some (.slice (some ⟨lb, lo, none⟩) 1 lc) ∧ V.cell? ⟨lb, lo, none⟩ = some (.int .i64 y) ∧ V.cell? ⟨w.heap.size, 1, none⟩ = some (.int .i64 m.a)) (go_keep)
    (first | (go_at_call 30; refine (HN.out _ (by repeat (first | exact hB0 | apply Below.drew))).mono ?_; rintro e w5 ⟨rfl, rfl⟩) | fail)
  go_wp2_with fail
  have HO : Hid (∀ V, Below W.heap.size W V → Calls Try.prog 31 #[.pointer (some ⟨x.b, 0, none⟩), .int .i64 m.c] V fun e w' => e = .returned (.int .i64 m.a) ∧ Below V.heap.size V w') := by rw [← HOWN.out]; exact fun V hV => rowner_any (HE.out.under hV) m.c
  go_region_held3 (fun V => V.cell? ⟨w.heap.size, 3, none⟩ = some (.int .i64 m.c) ∧ V.cell? ⟨w.heap.size, 1, none⟩ = some (.int .i64 m.a)) (go_keep)
    (first | (go_at_call 31; refine (HO.out _ (by repeat (first | exact hB0 | apply Below.drew))).mono ?_; rintro e w6 ⟨rfl, hb6⟩; have hB6 := (show Below W.heap.size W _ by repeat (first | exact hB0 | apply Below.drew)).trans hb6; have HT6 := hid (HT.out.under hB6); clear a0 a1 a2 a3 a4 a5 a6 a7 z0 z1 z2 z3 z4 fz; have a1 := cell_blk HT6.out.x 1 _ rfl; have a3 := cell_blk HT6.out.x 3 _ rfl) | fail)
  have HB6 := hid hB6
  clear a1 a3 c1 c3 hdup HN HO HH HF hlc hsl
  have HE6 : Hid (DgR w6 x.b x.n x.vm x.vp x.vo x.vn x.d) := HE.out.under hB6
  clear hB6 hB0
  obtain ⟨oa, oc, hvo, _, _, _, hoat⟩ := row_shape HE6.out.offs
  have HVO := hid hvo
  have HOAT := hid hoat
  clear hvo hoat
  have HRT : Hid (∀ k (hk : k < x.d.offs.length), remO (x.d.offs.take (k + 1)) m.c = if x.d.offs[k].id = m.c then remO (x.d.offs.take k) m.c else remO (x.d.offs.take k) m.c ++ [x.d.offs[k]]) := fun k hk => remO_take _ _ k hk
  have HRL : Hid (∀ k, (remO (x.d.offs.take k) m.c).length ≤ 100000) := fun k => by have := remO_le (x.d.offs.take k) m.c; rw [List.length_take] at this; omega
  have HOF : Hid (w6.ownsRow 0 65 2 (.slice oa x.d.offs.length oc) x.d.offs.length (flatM x.d.offs)) := by have := HE6.out.offs; rw [HVO.out] at this; exact this
  obtain ⟨os, hos⟩ : ∃ os, os = x.d.offs := ⟨_, rfl⟩
  have HOS := hid hos
  rw [← hos] at HRT HRL HOF hol HVO HOAT
  clear hos
  go_wp2_with fail
  go_loopg [9, 10] os.length (fun kx s9 s10 wr => ∃ (k : Nat) (a : Option Addr) (c : Nat), k ≤ os.length ∧ os.length - k ≤ kx ∧ s10 = .int .i64 (k : Int) ∧ s9 = .slice a (remO (os.take k) m.c).length c ∧ Hid (wr.ownsRow w6.heap.size 65 2 (.slice a (remO (os.take k) m.c).length c) (remO (os.take k) m.c).length (flatM (remO (os.take k) m.c)) ∧ Below w6.heap.size w6 wr))
  case atStart => exact ⟨0, none, 0, Nat.zero_le _, by omega, rfl, rfl, World.ownsRow_nil _ _ _ _, by first | exact Below.refl _ _ | exact (Below.refl _ _).drew | exact (Below.refl _ _).drew.drew⟩
  case round =>
    obtain ⟨k, ra, rc, hk, hkx, rfl, rfl, HR⟩ := hrel
    have c5 : wr.cell? ⟨x.b, 5, none⟩ = some (.slice oa os.length oc) := by
      have := (HE6.out.under HR.out.2).c5
      rw [HVO.out] at this
      exact this
    have a3 := cell_blk (HT6.out.under HR.out.2).x 3 _ rfl
    by_cases hlt : k < os.length
    · have hlt' : (k : Int) < (os.length : Int) := by omega
      obtain ⟨og, rfl⟩ := HOAT.out (by omega)
      have hkeep : ∀ j u, w6.cell? ⟨og, j, none⟩ = some u → wr.cell? ⟨og, j, none⟩ = some u := fun j u hu => kept_cell HR.out.2 hu
      obtain ⟨o0, o1⟩ := row_kept2 HOF.out k os[k] (List.getElem?_eq_getElem hlt)
      have o0 := hkeep _ _ o0
      have o1 := hkeep _ _ o1
      clear hkeep
      have HS := hid (HRT.out k hlt)
      generalize os[k] = y2 at *
      have hl1 := HRL.out k
      have hl2 := HRL.out (k + 1)
      by_cases he : y2.id = m.c
      · have HS2 : Hid (remO (os.take (k + 1)) m.c = remO (os.take k) m.c) := hid (by rw [HS.out, if_pos he])
        rw [he] at o0
        clear HS he
        go_wp2_with fail
        go_region_held3 (fun V => V.cell? ⟨x.b, 5, none⟩ = some (.slice (some ⟨og, 0, none⟩) os.length oc) ∧ V.cell? ⟨og, k * 2, none⟩ = some (.int .i64 m.c) ∧ V.cell? ⟨w.heap.size, 3, none⟩ = some (.int .i64 m.c)) (go_keep) (fail)
        go_wp2_with fail
        go_roundg (os.length - (k + 1))
        case measure => omega
        case rel => exact ⟨k + 1, ra, rc, by omega, Nat.le_refl _, by go_num, by rw [HS2.out], by rw [HS2.out]; first | exact ⟨HR.out.1.drew, HR.out.2.drew⟩ | exact HR.out⟩
      · have HS2 : Hid (remO (os.take (k + 1)) m.c = remO (os.take k) m.c ++ [y2]) := hid (by rw [HS.out, if_neg he])
        clear HS
        go_wp2_with fail
        go_region_held3 (fun V => V.cell? ⟨x.b, 5, none⟩ = some (.slice (some ⟨og, 0, none⟩) os.length oc) ∧ V.cell? ⟨og, k * 2, none⟩ = some (.int .i64 y2.id) ∧ V.cell? ⟨w.heap.size, 3, none⟩ = some (.int .i64 m.c)) (go_keep) (fail)
        obtain ⟨wd, hwd⟩ : ∃ wd, wd = wr.drew := ⟨_, rfl⟩
        have HRD : Hid (wd.ownsRow w6.heap.size 65 2 (.slice ra (remO (os.take k) m.c).length rc) (remO (os.take k) m.c).length (flatM (remO (os.take k) m.c)) ∧ Below w6.heap.size w6 wd) := by rw [hwd]; exact ⟨HR.out.1.drew, HR.out.2.drew⟩
        have d5 : wd.cell? ⟨x.b, 5, none⟩ = some (.slice (some ⟨og, 0, none⟩) os.length oc) := by rw [hwd]; exact c5
        have d0 : wd.cell? ⟨og, k * 2, none⟩ = some (.int .i64 y2.id) := by rw [hwd]; exact o0
        have d1 : wd.cell? ⟨og, k * 2 + 1, none⟩ = some (.int .i64 y2.num) := by rw [hwd]; exact o1
        rw [← hwd]
        clear c5 o0 o1 a3 hwd HR
        have hsz := HRD.out.2.size
        have HX : Hid ((wd.alloc (.cells #[.int .i64 y2.id, .int .i64 y2.num] 65)).ownsRow w6.heap.size 65 2 (.slice ra (remO (os.take k) m.c).length rc) (remO (os.take k) m.c).length (flatM (remO (os.take k) m.c))) := HRD.out.1.alloc _
        have HN1 : Hid (∀ j u, ([.int .i64 y2.id, .int .i64 y2.num] : List Value)[j]? = some u → (wd.alloc (.cells #[.int .i64 y2.id, .int .i64 y2.num] 65)).cell? ((⟨wd.heap.size, 0, none⟩ : Addr).add j) = some u) := fun j u hu => by
          rw [add_at, Nat.zero_add]
          refine cell_blk (heap_alloc_new wd (.cells #[.int .i64 y2.id, .int .i64 y2.num] 65)) j u ?_
          rw [← hu]; simp
        have HO1 : Hid (∀ u ∈ ([.int .i64 y2.id, .int .i64 y2.num] : List Value), u.oneCell' = true) := fun u hu => by simp at hu; rcases hu with rfl | rfl <;> rfl
        go_wp2_with (at_builtin; go_loud (refine wpList_append_own_at _ rfl _ _ 59 rfl w6.heap.size 65 j0 _ 2 16 Try.underlying59 hj0 hj1 hj2 hj3 rfl (by decide) _ (remO (os.take k) m.c).length _ rfl HX.out ⟨wd.heap.size, 0, none⟩ 1 1 [.int .i64 y2.id, .int .i64 y2.num] rfl rfl HN1.out HO1.out (by first | omega | (unfold maxLen; omega)) (by first | omega | (unfold maxLen; omega)) (by simp; omega) ?_); intro v2 w2 hown2 hg2 _ hat2)
        have HB2 : Hid (Below w6.heap.size w6 w2) := (HRD.out.2.alloc hsz _).grown hg2 (by simp; omega) (fun j hj => (World.ownsRow.lt HX.out j hj).1)
        have hrw : flatM (remO (os.take k) m.c) ++ [.int .i64 y2.id, .int .i64 y2.num] = flatM (remO (os.take (k + 1)) m.c) := by rw [HS2.out, flatM_append]; rfl
        have hle2 : (remO (os.take k) m.c).length + 1 = (remO (os.take (k + 1)) m.c).length := by rw [HS2.out]; simp
        have hown3 := hown2
        rw [hrw, hle2] at hown3
        have HO3 := hid hown3
        obtain ⟨a2, c2, ev⟩ := own_shape3 hown3
        subst ev
        clear hown2 hown3 hg2 hat2 hrw hle2 HX HN1 HO1
        go_wp2_with fail
        go_roundg (os.length - (k + 1))
        case measure => omega
        case rel => exact ⟨k + 1, a2, c2, by omega, Nat.le_refl _, by go_num, rfl, HO3.out, HB2.out⟩
    · have hlt' : ¬ (k : Int) < (os.length : Int) := by omega
      have hte : os.take k = x.d.offs := by rw [List.take_of_length_le (by omega)]; exact HOS.out
      obtain ⟨R, hR⟩ : ∃ R, R = remO (os.take k) m.c := ⟨_, rfl⟩
      have HRE : Hid (R = x.d.offs.filter (fun y => !(y.id == m.c))) := by show _ = _; rw [hR, hte]; rfl
      have hRl : R.length ≤ 100000 := by rw [hR]; exact HRL.out k
      rw [← hR] at HR ⊢
      clear hR hte hlt hk hkx
      have a4 := cell_blk (HT6.out.under HR.out.2).x 4 _ rfl
      have hf5 := (HE6.out.under HR.out.2).fz 5
      have hsz := HR.out.2.size
      have hx6 : x.b < w6.heap.size := HE6.out.lt
      have hs6 := HT6.out.s
      have HX : Hid ((wr.alloc (.cells #[.int .i64 m.c, .int .i64 m.d] 65)).ownsRow w6.heap.size 65 2 (.slice ra R.length rc) R.length (flatM R)) := HR.out.1.alloc _
      have HN1 : Hid (∀ j u, ([.int .i64 m.c, .int .i64 m.d] : List Value)[j]? = some u → (wr.alloc (.cells #[.int .i64 m.c, .int .i64 m.d] 65)).cell? ((⟨wr.heap.size, 0, none⟩ : Addr).add j) = some u) := fun j u hu => by
        rw [add_at, Nat.zero_add]
        refine cell_blk (heap_alloc_new wr (.cells #[.int .i64 m.c, .int .i64 m.d] 65)) j u ?_
        rw [← hu]; simp
      have HO1 : Hid (∀ u ∈ ([.int .i64 m.c, .int .i64 m.d] : List Value), u.oneCell' = true) := fun u hu => by simp at hu; rcases hu with rfl | rfl <;> rfl
      have HEB : Hid (∀ V, Below w6.heap.size w6 V → V.cell? ⟨x.b, 5, none⟩ = some x.vo ∧ V.frozen? ⟨x.b, 5, none⟩ = false) := fun V hV => ⟨(HE6.out.under hV).c5, (HE6.out.under hV).fz 5⟩
      go_wp2_with (at_builtin; go_loud (refine wpList_append_own_at _ rfl _ _ 59 rfl w6.heap.size 65 j0 _ 2 16 Try.underlying59 hj0 hj1 hj2 hj3 rfl (by decide) _ R.length _ rfl HX.out ⟨wr.heap.size, 0, none⟩ 1 1 [.int .i64 m.c, .int .i64 m.d] rfl rfl HN1.out HO1.out (by first | omega | (unfold maxLen; omega)) (by first | omega | (unfold maxLen; omega)) (by simp; omega) ?_); intro v7 w7 hown7 hg7 _ hat7; have HB7 : Hid (Below w6.heap.size w6 w7) := (HR.out.2.alloc hsz _).grown hg7 (by simp; omega) (fun j hj => (World.ownsRow.lt HX.out j hj).1); obtain ⟨p5, f5⟩ := HEB.out w7 HB7.out; obtain ⟨a7', c7', ev⟩ := own_shape3 hown7; subst ev)
      have HOW7 : Hid (w7.ownsRow w6.heap.size 65 2 (.slice a7' (R.length + 1) c7') (R ++ [(⟨m.c, m.d⟩ : Mb)]).length (flatM (R ++ [⟨m.c, m.d⟩]))) := by
        have := hown7
        rw [flatM_append, List.length_append]
        exact this
      clear hown7 hg7 hat7 HX HN1 HO1 a3 a4 c5 hf5
      go_upto_region 45 with fail
      have hv7 : ∀ k, (Value.slice a7' (R.length + 1) c7').ownBlock = some k → w6.heap.size ≤ k ∧ k < w7.heap.size := fun k e => World.ownsRow.lt HOW7.out k e
      have hE0 := HC.out.each x HMEM.out
      have HSO := hid (DgR.setOffs (HE6.out.under HB7.out) (hpa.mono fun k hk => hk.1) hmb hnb (R ++ [⟨m.c, m.d⟩]) (row_base HOW7.out) (fun e => by have := hv7 _ e; omega) (fun z hz => by
        rcases List.mem_append.1 hz with hz | hz
        · rw [HRE.out] at hz; exact hE0.o64 z (List.mem_filter.1 hz).1
        · obtain rfl := List.mem_singleton.1 hz; exact ⟨hrc.2.2.2.1, hrc.2.2.2.2⟩))
      have HT7 := hid (((HT6.out.under HB7.out).mono (Z' := fun k => k = x.b ∨ x.vn.ownBlock = some k) (fun k h => h.elim)).next HSO.out.2 (fun k e => .inl (.inl e)) (fun e => hn2 e) (fun e => hn4 e))
      have hlbc : w6.cell? ⟨lb, lo, none⟩ = some (.int .i64 y) := kept_cell HB6.out HLC.out
      have hlbl6 : lb < w6.heap.size := by omega
      have HLC7 : Hid ((w7.setCell ⟨x.b, 5, none⟩ (.slice a7' (R.length + 1) c7')).cell? ⟨lb, lo, none⟩ = some (.int .i64 y)) := (World.cell?_of_block (a := ⟨lb, lo, none⟩) (Below.heap_setCell _ _ _ _ HLB.out.1)).trans (kept_cell HB7.out hlbc)
      have hsz7 : w6.heap.size ≤ (w7.setCell ⟨x.b, 5, none⟩ (.slice a7' (R.length + 1) c7')).heap.size := Nat.le_trans HB7.out.size HSO.out.2.size
      have hv7b : ∀ k, (Value.slice a7' (R.length + 1) c7').ownBlock = some k → w6.heap.size ≤ k ∧ k < (w7.setCell ⟨x.b, 5, none⟩ (.slice a7' (R.length + 1) c7')).heap.size := fun k e => ⟨(hv7 k e).1, by have := (hv7 k e).2; simpa using this⟩
      have HV7 := hid hv7b
      clear hv7 hv7b p5 f5 hlbc
      generalize w7.setCell ⟨x.b, 5, none⟩ (.slice a7' (R.length + 1) c7') = W7 at *
      obtain ⟨na, nc, hvn, _⟩ := row_shape hE0.nums
      have HVN := hid hvn
      have hvnl : ∀ k, x.vn.ownBlock = some k → k < w.heap.size := fun k e => row_lt hE0.nums e
      have HR45 : Hid (R45 W7 x.b w.heap.size lb lo #[.string x.n, .int .i64 x.d.gen, .int .i64 x.d.ever, x.vm, x.vp, .slice a7' (R.length + 1) c7', .slice na x.d.nums.length nc] m.a y lc) := by
        refine ⟨?_, cell_blk HT7.out.x 1 _ rfl, ?_, HLC7.out⟩
        · have := HSO.out.1.cells
          rw [HVN.out] at this
          exact this
        · have := cell_blk HT7.out.x 7 _ rfl
          rw [HLEN.out] at this
          exact this
      have hrow45 : W7.ownsRow 0 65 2 (.slice na x.d.nums.length nc) x.d.nums.length (flatM x.d.nums) := by have := HSO.out.1.nums; rw [HVN.out] at this; exact this
      refine region45 (d := x.d) _ m.a y HR45.out hrow45 hnl (by omega) (by have := HT7.out.s; omega) (by omega) (by rw [← HVN.out]; exact hnb) (by rw [← HVN.out]; exact fun e => by have := hvnl _ e; omega) (by rw [← HVN.out]; exact HLB.out.2) rfl rfl rfl ?_
      intro g9 c9 W3 W4 hrow9 hat9 hk9 hr9 hw4
      rw [← HVN.out] at hk9 hat9
      have HSN := hid (DgR.setNums HSO.out.1 hpa hmb (fun e => by have := HV7.out _ e; omega) hnb hmn (fun k e e2 => by have := HV7.out _ e; have := hvnl _ e2; omega) (x.d.nums ++ [⟨m.a, y⟩]) (by rw [List.length_append]; exact hrow9) (fun e => by
        have eg := own_is e
        rcases hat9 with e3 | e3
        · exact hnb (by rw [← eg]; exact e3)
        · omega) (fun z hz => by
        rcases List.mem_append.1 hz with hz | hz
        · exact hE0.n64 z hz
        · obtain rfl := List.mem_singleton.1 hz; exact ⟨hrc.2.1, by unfold I64; show _ ≤ y ∧ y ≤ _; omega⟩) hk9 hw4)
      have HT9 := hid (HT7.out.next HSN.out.2 (fun k e => .inl e) (fun e => e.elim hn2 (fun e => by have := hvnl _ e; omega)) (fun e => e.elim hn4 (fun e => by have := hvnl _ e; omega)))
      have hVO : ∀ k, (Value.slice a7' (R.length + 1) c7').ownBlock = some k → w.heap.size ≤ k := fun k e => by have := HV7.out _ e; omega
      have hVN : ∀ k, (Value.slice (some ⟨g9, 0, none⟩) (x.d.nums.length + 1) c9).ownBlock = some k → x.vn.ownBlock = some k ∨ w.heap.size ≤ k := fun k e => by
        have eg := own_is e
        rcases hat9 with e3 | e3
        · exact .inl (by rw [← eg]; exact e3)
        · exact .inr (by omega)
      have hVV : ∀ k, (Value.slice a7' (R.length + 1) c7').ownBlock = some k → (Value.slice (some ⟨g9, 0, none⟩) (x.d.nums.length + 1) c9).ownBlock ≠ some k := fun k e e2 => by
        have eg := own_is e2
        have h1 := HV7.out _ e
        rcases hat9 with e3 | e3
        · have := hvnl _ e3; omega
        · omega
      have HVV := hid (And.intro hVO (And.intro hVN hVV))
      have HV9 := hid hat9
      have HSZ7 := hid hsz7
      have k1 : W4.cell? ⟨x.b, 1, none⟩ = some (.int .i64 g) := by have := HSN.out.1.c1; rw [HGE.out]; exact this
      have a1 := cell_blk HT9.out.x 1 _ rfl
      have a4 := cell_blk HT9.out.x 4 _ rfl
      have z0 := cell_blk HT9.out.z 0 _ rfl
      have z1 := cell_blk HT9.out.z 1 _ rfl
      have z2 := cell_blk HT9.out.z 2 _ rfl
      have z3 := cell_blk HT9.out.z 3 _ rfl
      have z4 := cell_blk HT9.out.z 4 _ rfl
      have fz := frz_blk HT9.out.z
      have hbn : x.b < w.heap.size := hbl
      clear hVO hVN hVV hw4 hr9 hk9 hat9 hrow9 hrow45 HR45
      simp only [Act.put, List.setIfInBounds_toArray, List.set_cons_zero, List.set_cons_succ]
      go_wp2_with fail
      go_region_held3 (fun V => V.cell? ⟨x.b, 1, none⟩ = some (.int .i64 g) ∧ V.cell? ⟨w.heap.size, 1, none⟩ = some (.int .i64 m.a) ∧ V.cell? ⟨w.heap.size, 4, none⟩ = some (.int .i64 m.d)) (go_keep) (fail)
      go_wp2_with fail
      have HK5 := hid (five_keeps W4 (w.heap.size + 1) (.int .i64 0) (.int .i64 m.a) (.int .i64 g) (.int .i64 m.d) (.slice none 0 0))
      unfold five at HK5
      have HT5 := hid ((HT9.out).five rfl (.int .i64 0) (.int .i64 m.a) (.int .i64 g) (.int .i64 m.d) (.slice none 0 0))
      unfold five at HT5
      generalize ((((W4.setCell ⟨w.heap.size + 1, 0, none⟩ (.int .i64 0)).setCell ⟨w.heap.size + 1, 1, none⟩ (.int .i64 m.a)).setCell ⟨w.heap.size + 1, 2, none⟩ (.int .i64 g)).setCell ⟨w.heap.size + 1, 3, none⟩ (.int .i64 m.d)).setCell ⟨w.heap.size + 1, 4, none⟩ (.slice none 0 0) = N5 at *
      have hE0' := HC.out.each x HMEM.out
      have hyl : m.list.headD 0 = y := by rw [HY.out]; rfl
      have hcd : ({ x.d with offs := R ++ [⟨m.c, m.d⟩], nums := x.d.nums ++ [⟨m.a, y⟩] } : Dg) = commitD x.d m := by unfold commitD; rw [hyl, HRE.out]
      have hD0 : DgR W4 x.b x.n x.vm x.vp (.slice a7' (R.length + 1) c7') (.slice (some ⟨g9, 0, none⟩) (x.d.nums.length + 1) c9) (commitD x.d m) := by rw [← hcd]; exact HSN.out.1
      have hs9 := HT6.out.s
      have hw60 : w.heap.size + 2 ≤ w6.heap.size := HT6.out.s
      have hD : DgR N5 x.b x.n x.vm x.vp (.slice a7' (R.length + 1) c7') (.slice (some ⟨g9, 0, none⟩) (x.d.nums.length + 1) c9) (commitD x.d m) := hD0.off HK5.out hn3 (fun e => by have := row_lt hE0'.mem e; omega) (fun e => by have := HV7.out _ e; omega) (fun e => by
        rcases HVV.out.2.1 _ e with e3 | e3
        · have := row_lt hE0'.nums e3; omega
        · have eg := own_is e
          have h7 := HV9.out
          rcases h7 with e4 | e4
          · have := row_lt hE0'.nums e4; omega
          · omega) (fun hne b' o' n' c' e => by have := hE0'.parts.old hne b' o' n' c' e; omega)
      have r0 := cell_blk HT5.out.z 0 _ rfl
      have r1 := cell_blk HT5.out.z 1 _ rfl
      have r2 := cell_blk HT5.out.z 2 _ rfl
      have r3 := cell_blk HT5.out.z 3 _ rfl
      have r4 := cell_blk HT5.out.z 4 _ rfl
      exact bodyPost_ret (v := .agg #[.int .i64 0, .int .i64 m.a, .int .i64 g, .int .i64 m.d, .slice none 0 0]) (by simp [results, Try.results13, go_sem, r0, r1, r2, r3, r4]) rfl (by rw [← HGE.out]; first | exact ⟨_, _, HT5.out.k, hD, HVV.out.1, HVV.out.2.1, HVV.out.2.2, told_nil⟩ | exact ⟨_, _, HT5.out.k.trans (Keeps.of_below (S := fun k => k = x.b ∨ x.vn.ownBlock = some k) (Below.refl _ _).drew) (fun k e => .inl e), hD.under (Below.refl _ _).drew, HVV.out.1, HVV.out.2.1, HVV.out.2.2, told_nil⟩)
end Go.Proofs.Ytdnpbhijjmlecaa

