/- The document's Apply: a member leaves. -/
import Derived.Test.YtdnpbhijjmlecaaZ11
import Derived.Test.YtdnpbhijjmlecaaZ10
import Derived.Test.YtdnpbhijjmlecaaZ12
namespace Go.Proofs.Ytdnpbhijjmlecaa
open Go.RowKit Go.Maps
set_option maxRecDepth 100000
set_option linter.unusedSimpArgs false
set_option linter.unusedVariables false

def remL (l : List Int) (a : Int) : List Int := l.filter (fun y => !(y == a))
theorem remL_take (l : List Int) (a : Int) (k : Nat) (hk : k < l.length) : remL (l.take (k + 1)) a = if l[k] = a then remL (l.take k) a else remL (l.take k) a ++ [l[k]] := by
  unfold remL
  rw [List.take_succ_eq_append_getElem hk, List.filter_append]
  by_cases e : l[k] = a
  · rw [if_pos e]; simp [e]
  · rw [if_neg e]; simp [e]
theorem own_shape3 {w : World} {B e s n : Nat} {v : Value} {xs : List Value} (h : w.ownsRow B e s v n xs) : ∃ a c, v = .slice a n c := by
  obtain ⟨oa, cap, e, _⟩ := row_shape (row_base h)
  exact ⟨oa, cap, e⟩
theorem remL_le (l : List Int) (a : Int) : (remL l a).length ≤ l.length := List.length_filter_le _ _
theorem TB8.mono {Z Z' : Nat → Prop} {w W : World} {cs zs : Array Value} (h : TB8 Z w W cs zs) (hm : ∀ k, Z k → Z' k) : TB8 Z' w W cs zs := ⟨h.x, h.z, h.k.mono hm, h.s⟩
theorem DgR.off {w W : World} {b q : Nat} {n : ByteArray} {vm vp vo vn : Value} {d : Dg} (h : DgR w b n vm vp vo vn d) (hk : Keeps (fun k => k = q) w W) (hb : b ≠ q) (hm : vm.ownBlock ≠ some q) (ho : vo.ownBlock ≠ some q) (hn : vn.ownBlock ≠ some q) (hp : In (fun k => k ≠ q) vp d.parts) : DgR W b n vm vp vo vn d := by
  have kb : ∀ k, k < w.heap.size → k ≠ q → W.heap[k]? = w.heap[k]? := fun k h1 h2 => hk.block k h1 h2
  exact ⟨(kb b h.lt hb).trans h.cells, row_kept h.mem (fun k hk' => kb k (row_lt h.mem hk') (fun e => hm (by rw [hk', e]))), h.m64, h.few, h.parts.kept (X := fun k => k ≠ q ∧ k < w.heap.size) (fun hne b' off n' c' e => ⟨hp hne b' off n' c' e, h.parts.old hne b' off n' c' e⟩) (fun k hk' => kb k hk'.2 hk'.1) hk.size, row_kept h.offs (fun k hk' => kb k (row_lt h.offs hk') (fun e => ho (by rw [hk', e]))), row_kept h.nums (fun k hk' => kb k (row_lt h.nums hk') (fun e => hn (by rw [hk', e]))), h.o64, h.n64⟩
/-- A group's record cell is stored into. -/
theorem DgR.leave {w W : World} {b : Nat} {n : ByteArray} {vm vp vo vn v : Value} {d : Dg} (h : DgR w b n vm vp vo vn d) (hpa : In (fun k => k ≠ b) vp d.parts) (ho : vo.ownBlock ≠ some b) (hn : vn.ownBlock ≠ some b) (a g : Int) (hg : g = d.gen + 1) (hr : w.ownsRow 0 3 1 v (remL d.mem a).length (vals (remL d.mem a))) (hv : v.ownBlock ≠ some b) (hW : W = (w.setCell ⟨b, 3, none⟩ v).setCell ⟨b, 1, none⟩ (.int .i64 g)) : DgR W b n v vp vo vn (leaveD d a) ∧ Keeps (fun k => k = b) w W := by
  subst hW hg
  have hk : Keeps (fun k => k = b) w ((w.setCell ⟨b, 3, none⟩ v).setCell ⟨b, 1, none⟩ (.int .i64 (d.gen + 1))) := (Keeps.set (S := fun k => k = b) w (a := ⟨b, 3, none⟩) rfl v).trans (Keeps.set (S := fun k => k = b) _ (a := ⟨b, 1, none⟩) rfl _) (fun x hx => .inl hx)
  have hc := set_box (j := 1) (v := .int .i64 (d.gen + 1)) (set_box (j := 3) (v := v) h.cells)
  generalize (w.setCell ⟨b, 3, none⟩ v).setCell ⟨b, 1, none⟩ (.int .i64 (d.gen + 1)) = W at *
  have kb : ∀ k, k < w.heap.size → k ≠ b → W.heap[k]? = w.heap[k]? := fun k h1 h2 => hk.block k h1 h2
  refine ⟨⟨hc, row_kept hr (fun k hk' => kb k (row_lt hr hk') (fun e => hv (by rw [hk', e]))), fun x hx => h.m64 x (List.mem_filter.1 hx).1, ?_, ?_, row_kept h.offs (fun k hk' => kb k (row_lt h.offs hk') (fun e => ho (by rw [hk', e]))), row_kept h.nums (fun k hk' => kb k (row_lt h.nums hk') (fun e => hn (by rw [hk', e]))), h.o64, h.n64⟩, hk⟩
  · have := remL_le d.mem a
    have := h.few
    show (remL d.mem a).length ≤ 1000
    omega
  · exact h.parts.kept (X := fun k => k ≠ b ∧ k < w.heap.size) (fun hne b' off n' c' e => ⟨hpa hne b' off n' c' e, h.parts.old hne b' off n' c' e⟩) (fun k hk' => kb k hk'.2 hk'.1) hk.size
set_option maxHeartbeats 3200000 in
theorem rleave_any {w : World} {r : Nat} {vl : Value} {es : List Ent} {ep : Int} (h : DC w r vl es ep) (hf : es.length ≤ 1000) (m : Rc) (la : Option Addr) (lc : Nat) (x : Ent) (hx : findX es m.name = some x) (hk2 : m.kind = 2) (hb : hasB x.d.mem m.a = true) (hgb : 0 ≤ x.d.gen ∧ x.d.gen ≤ 1000000) (hpa : In (fun k => k ≠ x.b) x.vp x.d.parts) (ho : x.vo.ownBlock ≠ some x.b) (hn : x.vn.ownBlock ≠ some x.b) : Calls Try.prog 13 #[.pointer (some ⟨r, 0, none⟩), recV m (.slice la m.list.length lc)] w fun e w' => ∃ vm', Keeps (fun k => k = x.b) w w' ∧ DgR w' x.b x.n vm' x.vp x.vo x.vn (leaveD x.d m.a) ∧ (∀ k, vm'.ownBlock = some k → w.heap.size ≤ k) ∧ ToldP (fun b => w.heap.size ≤ b) w' ⟨0, m.a, x.d.gen + 1, 0, []⟩ e := by
  have HC := hid h
  have HFX := hid hx
  have hmem := findX_mem hx
  have HMEM := hid hmem
  have HHB := hid hb
  have HK2 := hid hk2
  clear hb hk2
  obtain ⟨g, hgE⟩ : ∃ g, g = x.d.gen := ⟨_, rfl⟩
  rw [← hgE] at hgb
  have HGE := hid hgE
  clear hgE
  have hT := tb8_new (fun _ => False) w (recA m (.slice la m.list.length lc)) zTd
  have HT := hid hT
  unfold recV recA zTd at *
  go_enter Try.func13, Try.ntmps13
  go_upto_region 1 with fail
  generalize (w.alloc (.cells #[.int .i64 m.kind, .int .i64 m.a, .int .i64 m.b, .int .i64 m.c, .int .i64 m.d, .string m.name, .string m.text, .slice la m.list.length lc] 32)).alloc (.cells #[.int .i64 0, .int .i64 0, .int .i64 0, .int .i64 0, .slice none 0 0] 38) = W at *
  have a0 := cell_blk HT.out.x 0 _ rfl
  have a1 := cell_blk HT.out.x 1 _ rfl
  have a2 := cell_blk HT.out.x 2 _ rfl
  have a3 := cell_blk HT.out.x 3 _ rfl
  have a4 := cell_blk HT.out.x 4 _ rfl
  have a5 := cell_blk HT.out.x 5 _ rfl
  have a6 := cell_blk HT.out.x 6 _ rfl
  have a7 := cell_blk HT.out.x 7 _ rfl
  have z0 := cell_blk HT.out.z 0 _ rfl
  have z1 := cell_blk HT.out.z 1 _ rfl
  have z2 := cell_blk HT.out.z 2 _ rfl
  have z3 := cell_blk HT.out.z 3 _ rfl
  have z4 := cell_blk HT.out.z 4 _ rfl
  have fz := frz_blk HT.out.z
  clear hT
  have HF := hid (rfind_any (HC.out.under HT.out.k.base) hf m.name)
  rw [HFX.out] at HF
  unfold findV at HF
  have HE : Hid (DgR W x.b x.n x.vm x.vp x.vo x.vn x.d) := (HC.out.each x hmem).under HT.out.k.base
  have hbl : x.b < w.heap.size := DgR.lt (HC.out.each x hmem)
  have hn1 : ¬ x.b = w.heap.size := by omega
  have hn2 : ¬ w.heap.size = x.b := by omega
  have hn3 : ¬ x.b = w.heap.size + 1 := by omega
  have hn4 : ¬ w.heap.size + 1 = x.b := by omega
  have c1 := HE.out.c1
  have c3 := HE.out.c3
  have hB0 : Below W.heap.size W W := Below.refl _ _
  clear h hx hmem
  obtain ⟨i0, hi0, hz0, hz1, hz2⟩ := info3
  have h2 := HK2.out
  have HH : Hid (∀ V, Below W.heap.size W V → Calls Try.prog 28 #[x.vm, .int .i64 m.a] V fun e w' => e = .returned (.bool true) ∧ V = w') := fun V hV => by
    have := rhas_any (HE.out.il.under hV) m.a
    rw [HHB.out] at this
    exact this
  go_wp2_with fail
  refine HF.out.mono ?_
  rintro e w1 ⟨rfl, rfl⟩
  go_wp2_with fail
  go_region_held3 (fun V => V.cell? ⟨x.b, 3, none⟩ = some x.vm ∧ V.cell? ⟨w.heap.size, 1, none⟩ = some (.int .i64 m.a)) (go_keep)
    (first | (go_at_call 28; refine (HH.out _ (by first | exact hB0 | exact hB0.drew)).mono ?_; rintro e w1 ⟨rfl, rfl⟩) | fail)
  rw [← HGE.out] at c1
  have HIM := hid HE.out.il
  have hfew := HE.out.few
  obtain ⟨ma, mc, hvm⟩ : ∃ ma mc, x.vm = .slice ma x.d.mem.length mc := by obtain ⟨⟨ma, mc, e, _⟩, _⟩ := HE.out.il; exact ⟨ma, mc, e⟩
  rw [hvm] at c3 HIM
  have HVM := hid hvm
  clear hvm
  have HRT : Hid (∀ k (hk : k < x.d.mem.length), remL (x.d.mem.take (k + 1)) m.a = if x.d.mem[k] = m.a then remL (x.d.mem.take k) m.a else remL (x.d.mem.take k) m.a ++ [x.d.mem[k]]) := fun k hk => remL_take _ _ k hk
  have HRL : Hid (∀ k, (remL (x.d.mem.take k) m.a).length ≤ 1000) := fun k => by have := remL_le (x.d.mem.take k) m.a; rw [List.length_take] at this; omega
  have HME := hid (rfl : x.d.mem = x.d.mem)
  obtain ⟨ms, hms⟩ : ∃ ms, ms = x.d.mem := ⟨_, rfl⟩
  have HMS := hid hms
  rw [← hms] at HRT HRL HIM hfew c3
  clear hms HME
  go_wp2_with fail
  go_loopg [7, 8] ms.length (fun kx s7 s8 wr => ∃ (k : Nat) (a : Option Addr) (c : Nat), k ≤ ms.length ∧ ms.length - k ≤ kx ∧ s8 = .int .i64 (k : Int) ∧ s7 = .slice a (remL (ms.take k) m.a).length c ∧ Hid (wr.ownsRow W.heap.size 3 1 (.slice a (remL (ms.take k) m.a).length c) (remL (ms.take k) m.a).length (vals (remL (ms.take k) m.a)) ∧ Below W.heap.size W wr))
  case atStart => exact ⟨0, none, 0, Nat.zero_le _, by omega, rfl, rfl, World.ownsRow_nil _ _ _ _, by first | exact hB0 | exact hB0.drew | exact hB0.drew.drew⟩
  case round =>
    obtain ⟨k, ra, rc, hk, hkx, rfl, rfl, HR⟩ := hrel
    clear a0 a1 a2 a3 a4 a5 a6 a7 z0 z1 z2 z3 z4 fz c1 c3
    have c3 : wr.cell? ⟨x.b, 3, none⟩ = some (.slice ma ms.length mc) := by
      have := (HE.out.under HR.out.2).c3
      rw [HVM.out, ← HMS.out] at this
      exact this
    have a1 := cell_blk (HT.out.under HR.out.2).x 1 _ rfl
    by_cases hlt : k < ms.length
    · have hlt' : (k : Int) < (ms.length : Int) := by omega
      obtain ⟨mb, mo, rfl, hmc⟩ := (HIM.out.under HR.out.2).cellAt k hlt
      have HS := hid (HRT.out k hlt)
      generalize ms[k] = y at *
      have hl1 := HRL.out k
      have hl2 := HRL.out (k + 1)
      by_cases he : y = m.a
      · have HS2 : Hid (remL (ms.take (k + 1)) m.a = remL (ms.take k) m.a) := hid (by rw [HS.out, if_pos he])
        have heb : (y != m.a) = false := by simp [he]
        rw [he] at hmc
        clear HS heb he
        go_wp2_with fail
        go_region_held3 (fun V => V.cell? ⟨x.b, 3, none⟩ = some (.slice (some ⟨mb, mo, none⟩) ms.length mc) ∧ V.cell? ⟨mb, mo + k, none⟩ = some (.int .i64 m.a) ∧ V.cell? ⟨w.heap.size, 1, none⟩ = some (.int .i64 m.a)) (go_keep) (fail)
        go_wp2_with fail
        go_roundg (ms.length - (k + 1))
        case measure => omega
        case rel => exact ⟨k + 1, ra, rc, by omega, Nat.le_refl _, by go_num, by rw [HS2.out], by rw [HS2.out]; first | exact ⟨HR.out.1.drew, HR.out.2.drew⟩ | exact HR.out⟩
      · have HS2 : Hid (remL (ms.take (k + 1)) m.a = remL (ms.take k) m.a ++ [y]) := hid (by rw [HS.out, if_neg he])
        clear HS
        go_wp2_with fail
        go_region_held3 (fun V => V.cell? ⟨x.b, 3, none⟩ = some (.slice (some ⟨mb, mo, none⟩) ms.length mc) ∧ V.cell? ⟨mb, mo + k, none⟩ = some (.int .i64 y) ∧ V.cell? ⟨w.heap.size, 1, none⟩ = some (.int .i64 m.a)) (go_keep) (fail)
        obtain ⟨wd, hwd⟩ : ∃ wd, wd = wr.drew := ⟨_, rfl⟩
        have HRD : Hid (wd.ownsRow W.heap.size 3 1 (.slice ra (remL (ms.take k) m.a).length rc) (remL (ms.take k) m.a).length (vals (remL (ms.take k) m.a)) ∧ Below W.heap.size W wd) := by rw [hwd]; exact ⟨HR.out.1.drew, HR.out.2.drew⟩
        have d3 : wd.cell? ⟨x.b, 3, none⟩ = some (.slice (some ⟨mb, mo, none⟩) ms.length mc) := by rw [hwd]; exact c3
        have dmc : wd.cell? ⟨mb, mo + k, none⟩ = some (.int .i64 y) := by rw [hwd]; exact hmc
        rw [← hwd]
        clear c3 hmc a1 hwd HR
        have hsz := HRD.out.2.size
        have HX : Hid ((wd.alloc (.cells #[.int .i64 y] 3)).ownsRow W.heap.size 3 1 (.slice ra (remL (ms.take k) m.a).length rc) (remL (ms.take k) m.a).length (vals (remL (ms.take k) m.a))) := HRD.out.1.alloc _
        have HN1 : Hid (∀ j u, ([.int .i64 y] : List Value)[j]? = some u → (wd.alloc (.cells #[.int .i64 y] 3)).cell? ((⟨wd.heap.size, 0, none⟩ : Addr).add j) = some u) := fun j u hu => by
          cases j with
          | zero => simp at hu; subst hu; rw [add_at]; exact cell_blk (heap_alloc_new wd (.cells #[.int .i64 y] 3)) 0 _ rfl
          | succ j => simp at hu
        have HO1 : Hid (∀ u ∈ ([.int .i64 y] : List Value), u.oneCell' = true) := fun u hu => by simp at hu; subst hu; rfl
        go_wp2_with (at_builtin; go_loud (refine wpList_append_own_at _ rfl _ _ 30 rfl W.heap.size 3 i0 _ 1 8 Try.underlying30 hi0 hz0 hz1 hz2 rfl (by decide) _ (remL (ms.take k) m.a).length _ rfl HX.out ⟨wd.heap.size, 0, none⟩ 1 1 [.int .i64 y] rfl rfl HN1.out HO1.out (by first | omega | (unfold maxLen; omega)) (by first | omega | (unfold maxLen; omega)) (by simp; omega) ?_); intro v2 w2 hown2 hg2 _ hat2)
        have HB2 : Hid (Below W.heap.size W w2) := (HRD.out.2.alloc hsz _).grown hg2 (by simp; omega) (fun j hj => (World.ownsRow.lt HX.out j hj).1)
        have hrw : vals (remL (ms.take k) m.a) ++ [.int .i64 y] = vals (remL (ms.take (k + 1)) m.a) := by rw [HS2.out]; simp [vals]
        have hle2 : (remL (ms.take k) m.a).length + 1 = (remL (ms.take (k + 1)) m.a).length := by rw [HS2.out]; simp
        have hown3 := hown2
        rw [hrw, hle2] at hown3
        have HO3 := hid hown3
        obtain ⟨a2, c2, ev⟩ := own_shape3 hown3
        subst ev
        clear hown2 hown3 hg2 hat2 hrw hle2 HX HN1 HO1
        go_wp2_with fail
        go_roundg (ms.length - (k + 1))
        case measure => omega
        case rel => exact ⟨k + 1, a2, c2, by omega, Nat.le_refl _, by go_num, rfl, HO3.out, HB2.out⟩
    · have hlt' : ¬ (k : Int) < (ms.length : Int) := by omega
      have hte : ms.take k = x.d.mem := by rw [List.take_of_length_le (by omega)]; exact HMS.out
      obtain ⟨R, hR⟩ : ∃ R, R = remL (ms.take k) m.a := ⟨_, rfl⟩
      have HRE : Hid (R = remL x.d.mem m.a) := by show _ = _; rw [hR, hte]
      rw [← hR] at HR ⊢
      clear hR hte
      have c1 : wr.cell? ⟨x.b, 1, none⟩ = some (.int .i64 g) := by
        have := (HE.out.under HR.out.2).c1
        rw [← HGE.out] at this
        exact this
      have hf1 := (HE.out.under HR.out.2).fz 1
      have hf3 := (HE.out.under HR.out.2).fz 3
      obtain ⟨hg1, hg2⟩ := hgb
      go_wp2_with fail
      have hsW := HT.out.s
      have HVN : Hid ((Value.slice ra R.length rc).ownBlock ≠ some x.b) := fun e => by have := (World.ownsRow.lt HR.out.1 _ e).1; omega
      have HVL : Hid (∀ k, (Value.slice ra R.length rc).ownBlock = some k → W.heap.size ≤ k) := fun k e => (World.ownsRow.lt HR.out.1 _ e).1
      have hrow : wr.ownsRow 0 3 1 (.slice ra R.length rc) (remL x.d.mem m.a).length (vals (remL x.d.mem m.a)) := by have := row_base HR.out.1; rw [HRE.out] at this ⊢; exact this
      have HLV := hid (DgR.leave (HE.out.under HR.out.2) hpa ho hn m.a (g + 1) (by rw [HGE.out]) hrow HVN.out rfl)
      have HT2 := hid (((HT.out.under HR.out.2).mono (Z' := fun k => k = x.b) (fun k h => h.elim)).next HLV.out.2 (fun k e => .inl e) (fun e => hn2 e) (fun e => hn4 e))
      generalize ((wr.setCell ⟨x.b, 3, none⟩ (.slice ra R.length rc)).setCell ⟨x.b, 1, none⟩ (.int .i64 (g + 1))) = W2 at *
      have k1 : W2.cell? ⟨x.b, 1, none⟩ = some (.int .i64 (g + 1)) := by have := HLV.out.1.c1; rw [HGE.out]; exact this
      have a1 := cell_blk HT2.out.x 1 _ rfl
      have z0 := cell_blk HT2.out.z 0 _ rfl
      have z1 := cell_blk HT2.out.z 1 _ rfl
      have z2 := cell_blk HT2.out.z 2 _ rfl
      have z3 := cell_blk HT2.out.z 3 _ rfl
      have z4 := cell_blk HT2.out.z 4 _ rfl
      have fz := frz_blk HT2.out.z
      go_region_held3 (fun V => V.cell? ⟨x.b, 1, none⟩ = some (.int .i64 (g + 1)) ∧ V.cell? ⟨w.heap.size, 1, none⟩ = some (.int .i64 m.a)) (go_keep) (fail)
      go_wp2_with fail
      have HK5 := hid (five_keeps W2 (w.heap.size + 1) (.int .i64 0) (.int .i64 m.a) (.int .i64 (g + 1)) (.int .i64 0) (.slice none 0 0))
      unfold five at HK5
      have HT5 := hid ((HT2.out).five rfl (.int .i64 0) (.int .i64 m.a) (.int .i64 (g + 1)) (.int .i64 0) (.slice none 0 0))
      unfold five at HT5
      generalize ((((W2.setCell ⟨w.heap.size + 1, 0, none⟩ (.int .i64 0)).setCell ⟨w.heap.size + 1, 1, none⟩ (.int .i64 m.a)).setCell ⟨w.heap.size + 1, 2, none⟩ (.int .i64 (g + 1))).setCell ⟨w.heap.size + 1, 3, none⟩ (.int .i64 0)).setCell ⟨w.heap.size + 1, 4, none⟩ (.slice none 0 0) = N5 at *
      have hE0 := HC.out.each x HMEM.out
      have hD : DgR N5 x.b x.n (.slice ra R.length rc) x.vp x.vo x.vn (leaveD x.d m.a) := HLV.out.1.off HK5.out hn3 (fun e => by have := HVL.out _ e; omega) (fun e => by have := row_lt hE0.offs e; omega) (fun e => by have := row_lt hE0.nums e; omega) (fun hne b' o' n' c' e => by have := hE0.parts.old hne b' o' n' c' e; omega)
      have hVL : ∀ k, (Value.slice ra R.length rc).ownBlock = some k → w.heap.size ≤ k := fun k e => by have := HVL.out k e; omega
      have r0 := cell_blk HT5.out.z 0 _ rfl
      have r1 := cell_blk HT5.out.z 1 _ rfl
      have r2 := cell_blk HT5.out.z 2 _ rfl
      have r3 := cell_blk HT5.out.z 3 _ rfl
      have r4 := cell_blk HT5.out.z 4 _ rfl
      exact bodyPost_ret (v := .agg #[.int .i64 0, .int .i64 m.a, .int .i64 (g + 1), .int .i64 0, .slice none 0 0]) (by simp [results, Try.results13, go_sem, r0, r1, r2, r3, r4]) rfl (by rw [← HGE.out]; first | exact ⟨_, HT5.out.k, hD, hVL, told_nil⟩ | exact ⟨_, HT5.out.k.trans (Keeps.of_below (S := fun k => k = x.b) (Below.refl _ _).drew) (fun k e => .inl e), hD.under (Below.refl _ _).drew, hVL, told_nil⟩)
end Go.Proofs.Ytdnpbhijjmlecaa

/- The document's Apply on the groups of a call's own: nobody, a read, a member leaves, a sync. -/
namespace Go.Proofs.Ytdnpbhijjmlecaa
open Go.RowKit Go.Maps
set_option linter.unusedSimpArgs false
set_option linter.unusedVariables false

theorem DM.under {Z : Nat → Prop} {w w' : World} {r : Nat} {vl : Value} {es : List Ent} {ep : Int} (h : DM Z w r vl es ep) (hb : Below w.heap.size w w') : DM Z w' r vl es ep :=
  ⟨h.c.under hb, h.rz, h.lz, h.lr, h.own, h.ap, h.self, h.ps, fun k hk => Nat.lt_of_lt_of_le (h.zlt k hk) hb.size⟩
/-- What Apply leaves. -/
def AppP (Z : Nat → Prop) (w : World) (r N : Nat) (S' : Gs) (t : Td) (e : Ending) (w' : World) : Prop :=
  ∃ Z' vl' es' ep', DM Z' w' r vl' es' ep' ∧ RelS N es' ep' S' ∧ (∀ k, Z' k → Z k ∨ w.heap.size ≤ k) ∧ Keeps Z w w' ∧ ToldP (fun b => w.heap.size ≤ b) w' t e
theorem RelS.mono {N M : Nat} {es : List Ent} {ep : Int} {S : Gs} (h : RelS N es ep S) (hm : N ≤ M) : RelS M es ep S := ⟨h.ep, h.len, fun i h1 h2 => ⟨(h.each i h1 h2).1, (h.each i h1 h2).2.mono hm⟩⟩
theorem appP_same {Z : Nat → Prop} {w w' : World} {r N : Nat} {vl : Value} {es : List Ent} {ep : Int} {S : Gs} {t : Td} {e : Ending} (h : DM Z w r vl es ep) (hr : RelS N es ep S) (ht : ToldP (fun b => w.heap.size ≤ b) w' t e) (hb : Below w.heap.size w w') : AppP Z w r N S t e w' :=
  ⟨Z, vl, es, ep, h.under hb, hr, fun k hk => .inl hk, Keeps.of_below hb, ht⟩
theorem ask_eq {S : Gs} {m : Rc} {x : Gr} (hk : m.kind = 2 ∨ m.kind = 3 ∨ m.kind = 4 ∨ m.kind = 6) (hx : getG S.gs m.key = some x) : applyI S m = ({ S with gs := setG S.gs m.key (oneI x m).1 }, (oneI x m).2) := by
  unfold applyI askI
  rw [if_neg (by omega), if_pos hk, hx]
theorem ask_same {S : Gs} {M : Nat} (ho : GsOk M S) {m : Rc} {x : Gr} (hk : m.kind = 2 ∨ m.kind = 3 ∨ m.kind = 4 ∨ m.kind = 6) (hx : getG S.gs m.key = some x) {t : Td} (h1 : oneI x m = (x, t)) : applyI S m = (S, t) := by
  rw [ask_eq hk hx, h1]
  simp only
  rw [set_self ho.names hx]
theorem kleave {Z : Nat → Prop} {w : World} {r N M : Nat} {vl : Value} {es : List Ent} {ep : Int} {S : Gs} (h : DM Z w r vl es ep) (hr : RelS N es ep S) (ho : GsOk M S) (hM : M ≤ 1000000) (m : Rc) (la : Option Addr) (lc : Nat) (hk : m.kind = 2) :
    Calls Try.prog 13 #[.pointer (some ⟨r, 0, none⟩), recV m (.slice la m.list.length lc)] w fun e w' => AppP Z w r N (applyI S m).1 (applyI S m).2 e w' := by
  have hlen : es.length ≤ 1000 := by have := hr.len; have := ho.few; omega
  rcases rel_find hr m.name with ⟨hf, hg⟩ | ⟨i, hi, hi', hf, hg, hnm, hen⟩
  · have e1 : applyI S m = (S, errT 8) := by
      unfold applyI askI
      rw [if_neg (by omega), if_pos (.inl hk), show getG S.gs m.key = none from hg]
    rw [e1]
    exact (rnone_any h.c hlen m la lc hf (by omega) (by omega) (by omega) (by omega)).mono fun e w' ⟨h1, h2⟩ => appP_same h hr h1 h2
  · have hrel := (hr.each i hi hi').2
    have hok : GrOk M S.gs[i].2 := (ho.each _ (List.getElem_mem hi')).1
    have hmem : es[i] ∈ es := List.getElem_mem hi
    have hh := rel_has (M := M) hrel m.a
    cases hM2 : hasM S.gs[i].2 m.a with
    | false =>
      have e1 : applyI S m = (S, errT 17) := ask_same ho (.inl hk) hg (by
        unfold oneI leaveI
        rw [if_pos hk]
        unfold hasM at hM2
        cases hp : placeN S.gs[i].2.mem m.a with
        | none => rfl
        | some j => rw [hp] at hM2; cases hM2)
      rw [e1]
      exact (rnomem_any h.c hlen m la lc es[i] hf (by omega) (by omega) (by omega) (by omega) (by omega) (by rw [hh, hM2])).mono fun e w' ⟨h1, h2⟩ => appP_same h hr h1 h2
    | true =>
      obtain ⟨g1, g2⟩ := rel_leave hrel hok m hM2
      have e1 := ask_eq (S := S) (m := m) (.inl hk) hg
      have e2 : oneI S.gs[i].2 m = leaveI S.gs[i].2 m := by unfold oneI; rw [if_pos hk]
      rw [e1, e2, g2]
      have hself := h.self _ hmem
      have hps := h.ps _ hmem
      refine (rleave_any h.c hlen m la lc es[i] hf hk (by rw [hh, hM2]) (by rw [hrel.gen]; have := hok.gen; omega) (hps.mono fun k hk' e => hk'.2.2.2 _ hmem (.inl e)) hself.o hself.n).mono ?_
      rintro e w' ⟨vm', k1, k2, k3, k4⟩
      have hlt : ∀ k, OwnE es[i] k → k < w.heap.size := fun k hk' => OwnE.lt (h.c.each _ hmem) hk'
      have hown : ∀ k, vm'.ownBlock = some k → w.heap.size ≤ k ∧ k < w'.heap.size := fun k hk' => ⟨k3 k hk', row_lt k2.mem hk'⟩
      have hT := h.turn i hi (k1.mono fun k e => .inl e) ⟨es[i].b, es[i].n, vm', es[i].vp, es[i].vo, es[i].vn, leaveD es[i].d m.a⟩ rfl k2 (fun k hk' => by
        rcases hk' with h1 | h1 | h1 | h1
        · exact .inl (.inl h1)
        · exact .inr (hown k h1)
        · exact .inl (.inr (.inr (.inl h1)))
        · exact .inl (.inr (.inr (.inr h1)))) ⟨fun e => by have h0 : w.heap.size ≤ es[i].b := k3 _ e; have h1 : es[i].b < w.heap.size := hlt _ (.inl rfl); omega, hself.o, hself.n, fun k e e2 => by have := k3 _ e; have := hlt k (.inr (.inr (.inl e2))); omega, fun k e e2 => by have := k3 _ e; have := hlt k (.inr (.inr (.inr e2))); omega, hself.on⟩ (.inr ⟨rfl, rfl⟩)
      refine ⟨_, vl, _, ep, hT, ?_, fun k hk' => hk'.imp id (fun h => h.1), k1.mono fun k e => (h.own _ hmem k (.inl e)).1, k4⟩
      have := rel_set hr (Nat.le_refl N) ho.names i hi hi' ⟨es[i].b, es[i].n, vm', es[i].vp, es[i].vo, es[i].vn, leaveD es[i].d m.a⟩ rfl (leaveI S.gs[i].2 m).1 g1
      rw [hnm] at this
      exact this
end Go.Proofs.Ytdnpbhijjmlecaa

/- The document's Apply on the groups of a call's own: a read, a sync. -/
namespace Go.Proofs.Ytdnpbhijjmlecaa
open Go.RowKit Go.Maps
set_option linter.unusedSimpArgs false
set_option linter.unusedVariables false

theorem knone {Z : Nat → Prop} {w : World} {r N : Nat} {vl : Value} {es : List Ent} {ep : Int} {S : Gs} (h : DM Z w r vl es ep) (hr : RelS N es ep S) (hlen : es.length ≤ 1000) (m : Rc) (la : Option Addr) (lc : Nat) (hk : m.kind = 2 ∨ m.kind = 3 ∨ m.kind = 4 ∨ m.kind = 6) (hf : findX es m.name = none) (hg : getG S.gs m.key = none) :
    Calls Try.prog 13 #[.pointer (some ⟨r, 0, none⟩), recV m (.slice la m.list.length lc)] w fun e w' => AppP Z w r N (applyI S m).1 (applyI S m).2 e w' := by
  have e1 : applyI S m = (S, errT 8) := by
    unfold applyI askI
    rw [if_neg (by omega), if_pos hk, hg]
  rw [e1]
  exact (rnone_any h.c hlen m la lc hf (by omega) (by omega) (by omega) (by omega)).mono fun e w' ⟨h1, h2⟩ => appP_same h hr h1 h2
theorem kread {Z : Nat → Prop} {w : World} {r N M : Nat} {vl : Value} {es : List Ent} {ep : Int} {S : Gs} (h : DM Z w r vl es ep) (hr : RelS N es ep S) (ho : GsOk M S) (hN : N ≤ 100000) (m : Rc) (la : Option Addr) (lc : Nat) (hk : m.kind = 4) :
    Calls Try.prog 13 #[.pointer (some ⟨r, 0, none⟩), recV m (.slice la m.list.length lc)] w fun e w' => AppP Z w r N (applyI S m).1 (applyI S m).2 e w' := by
  have hlen : es.length ≤ 1000 := by have := hr.len; have := ho.few; omega
  rcases rel_find hr m.name with ⟨hf, hg⟩ | ⟨i, hi, hi', hf, hg, hnm, hen⟩
  · exact knone h hr hlen m la lc (by omega) hf hg
  · have hrel := (hr.each i hi hi').2
    have e1 : applyI S m = (S, ⟨0, 0, es[i].d.gen, firstK es[i].d.offs m.c, []⟩) := ask_same ho (by omega) hg (by
      unfold oneI
      rw [if_neg (by omega), if_neg (by omega), if_neg (by omega), hrel.gen, hrel.offs]; rfl)
    rw [e1]
    exact (rread_any h.c hlen m la lc es[i] hf hk (by have := hrel.olen; omega)).mono fun e w' ⟨h1, h2⟩ => appP_same h hr h1 h2
theorem ksync {Z : Nat → Prop} {w : World} {r N M : Nat} {vl : Value} {es : List Ent} {ep : Int} {S : Gs} (h : DM Z w r vl es ep) (hr : RelS N es ep S) (ho : GsOk M S) (m : Rc) (la : Option Addr) (lc : Nat) (hk : m.kind = 6) :
    Calls Try.prog 13 #[.pointer (some ⟨r, 0, none⟩), recV m (.slice la m.list.length lc)] w fun e w' => AppP Z w r N (applyI S m).1 (applyI S m).2 e w' := by
  have hlen : es.length ≤ 1000 := by have := hr.len; have := ho.few; omega
  rcases rel_find hr m.name with ⟨hf, hg⟩ | ⟨i, hi, hi', hf, hg, hnm, hen⟩
  · exact knone h hr hlen m la lc (by omega) hf hg
  · have hrel := (hr.each i hi hi').2
    have hh := rel_has (M := M) hrel m.a
    have e2 : oneI S.gs[i].2 m = syncI S.gs[i].2 m := by unfold oneI; rw [if_neg (by omega), if_neg (by omega), if_pos hk]
    cases hM2 : hasM S.gs[i].2 m.a with
    | false =>
      have e1 : applyI S m = (S, errT 17) := ask_same ho (by omega) hg (by rw [e2]; unfold syncI memE; rw [if_pos hM2]; rfl)
      rw [e1]
      exact (rnomem_any h.c hlen m la lc es[i] hf (by omega) (by omega) (by omega) (by omega) (by omega) (by rw [hh, hM2])).mono fun e w' ⟨h1, h2⟩ => appP_same h hr h1 h2
    | true =>
      by_cases hb : m.b = es[i].d.gen
      · have e1 : applyI S m = (S, ⟨0, m.a, es[i].d.gen, 0, partsD es[i].d.mem es[i].d.parts m.a⟩) := ask_same ho (by omega) hg (by
          have hme : memE S.gs[i].2 m = 0 := by unfold memE; rw [if_neg (show ¬ hasM S.gs[i].2 m.a = false by simp [hM2]), if_neg (by rw [hb, hrel.gen]; simp)]
          rw [e2, rel_parts hrel m.a hM2, hrel.gen]
          unfold syncI
          rw [hme]; simp)
        rw [e1]
        exact (rsync_any h.c hlen m la lc es[i] hf (by omega) (by omega) (by omega) (by omega) (by omega) (by omega) (by rw [hh, hM2]) hb hk).mono fun e w' ⟨h1, h2⟩ => appP_same h hr h1 h2
      · have e1 : applyI S m = (S, errT 18) := ask_same ho (by omega) hg (by
          have hme : memE S.gs[i].2 m = 18 := by unfold memE; rw [if_neg (show ¬ hasM S.gs[i].2 m.a = false by simp [hM2]), if_pos (by rw [← hrel.gen]; exact hb)]
          rw [e2]
          unfold syncI
          rw [hme]; simp)
        rw [e1]
        exact (rgen_any h.c hlen m la lc es[i] hf (by omega) (by omega) (by omega) (by omega) (by omega) (by omega) (by rw [hh, hM2]) hb).mono fun e w' ⟨h1, h2⟩ => appP_same h hr h1 h2
end Go.Proofs.Ytdnpbhijjmlecaa

