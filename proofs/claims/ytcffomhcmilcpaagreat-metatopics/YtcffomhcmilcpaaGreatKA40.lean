/- The topics' names, rising. -/
import Derived.Test.YtcffomhcmilcpaaGreatK28
import Derived.Test.YtcffomhcmilcpaaGreatKSo
import Derived.Sort.OwnSorted
namespace Go.Proofs.YtcffomhcmilcpaaGreat
open Go.RowKit Go.Maps Go.Sort
set_option maxRecDepth 100000
set_option linter.unusedSimpArgs false
set_option linter.unusedVariables false

/-- A topic's name as its bytes. -/
def nmL (l : List Tp) : List (List UInt8) := l.map fun t => t.name.data.toList
def srtL (l : List Tp) : List (List UInt8) := (nmL l).mergeSort (fun x y => decide (x ≤ y))
theorem enc_name (s : ByteArray) : encStr s.data.toList = .string s := by cases s; simp [encStr]
theorem nm_take {l : List Tp} {k : Nat} (h : k < l.length) : (nmL (l.take k)).map encStr ++ [.string l[k].name] = (nmL (l.take (k + 1))).map encStr := by
  rw [List.take_succ_eq_append_getElem h]
  unfold nmL
  rw [List.map_append, List.map_append]
  show _ ++ [_] = _ ++ [encStr l[k].name.data.toList]
  rw [enc_name]
theorem info9 : ∃ i, Tryz.prog.info? 9 = some i ∧ i.zero = some (.string ByteArray.empty) ∧ i.size = 1 ∧ i.bytes = 16 := ⟨_, rfl, rfl, rfl, rfl⟩
/-- The first k names stand in a row of the call's own. -/
def NInv (w wr : World) (T : List Tp) (k : Nat) (v : Value) : Prop := wr.ownsRow w.heap.size 9 1 v k ((nmL (T.take k)).map encStr) ∧ Below w.heap.size w wr
theorem sort_row {w wr : World} {T : List Tp} {v : Value} (h : NInv w wr T T.length v) (hl : T.length ≤ 16) : Calls Tryz.prog 64 #[v] wr fun e w' => e = .returned (.tuple #[]) ∧ w'.ownsRow w.heap.size 9 1 v T.length ((srtL T).map encStr) ∧ Below w.heap.size w w' := by
  obtain ⟨h1, h2⟩ := h
  rw [List.take_length] at h1
  have hlen : (nmL T).length = T.length := by simp [nmL]
  have hown := h1
  rcases h1.2 with ⟨rfl, h0⟩ | ⟨g, cap, cur, rfl, hbase, hb, k1, k2, k3, k4⟩
  · refine (AnyM.slices_Sort_string_none Tryz.sortS none 0 wr).mono ?_
    rintro e w' ⟨rfl, rfl⟩
    have e : T = [] := List.eq_nil_of_length_eq_zero h0
    subst e
    refine ⟨rfl, ?_, h2⟩
    simpa [srtL, nmL] using hown
  · have hH : Holds encStr wr g 0 (nmL T).toArray := holds_of_block hb (by rw [hlen]; simpa using k4)
    have := AnyM.slices_Sort_string Tryz.sortS g 0 cap (nmL T) wr hH (Array.getElem?_eq_some_iff.1 hb).1 (by omega)
    rw [hlen] at this
    refine this.mono ?_
    rintro e w' ⟨rfl, n, os, rfl⟩
    refine ⟨rfl, ?_, h2.grown (grownBy_sorted _) h2.size (fun k hk => by cases hk; exact hbase)⟩
    have := ownsRow_sorted (n := n) (os := os) (ss := nmL T) (ts := srtL T) (by simp [srtL]) hbase hb (by omega) k2 k3
    rw [hlen] at this
    exact this
set_option maxHeartbeats 3200000 in
theorem ktopics_any {w : World} {Z : Nat → Prop} {q : Nat} {I : Im} (hi : Img w Z q I) : Calls Tryz.prog 28 #[.pointer (some ⟨q, 0, none⟩)] w fun e w' => ∃ v, e = .returned v ∧ w'.ownsRow w.heap.size 9 1 v I.tops.length ((srtL I.tops).map encStr) ∧ Below w.heap.size w w' := by
  obtain ⟨j0, hj0, hz0, hz1, hz2⟩ := info9
  obtain ⟨L, b, vt, vp, ve, ps, h, hz4, hz5, hz3⟩ := hi
  have hfew : I.tops.length ≤ 16 := h.ok.topsFew
  obtain ⟨oa, cap, rfl, _, _, _, hat⟩ := row_shape h.tops
  have HI := hid h
  have c2 := h.c2
  have HN0 : Hid (NInv w w I.tops 0 (.slice none 0 0)) := ⟨World.ownsRow_nil _ _ _ _, Below.refl _ _⟩
  have HSO := hid (fun wr v hh => sort_row (w := w) (wr := wr) (T := I.tops) (v := v) hh hfew)
  clear hz4 hz5 hz3 h
  go_enter Tryz.func28, Tryz.ntmps28
  go_wp2_with fail
  go_loopg [3, 11] I.tops.length (fun kx s3 s11 wr => ∃ (k : Nat) (oa' : Option Addr) (c : Nat), k ≤ I.tops.length ∧ I.tops.length - k ≤ kx ∧ s3 = .slice oa' k c ∧ s11 = .int .i64 (k : Int) ∧ Hid (NInv w wr I.tops k (.slice oa' k c)))
  case atStart => exact ⟨0, none, 0, Nat.zero_le _, by omega, rfl, rfl, HN0.out⟩
  case round =>
    obtain ⟨k, oa', c, hk, hkx, rfl, rfl, HK⟩ := hrel
    clear HN0
    by_cases hlt : k < I.tops.length
    · obtain ⟨g, rfl⟩ := hat (by omega)
      obtain ⟨k0, k1, k2⟩ := (HI.out.under HK.out.2).top k _ (List.getElem?_eq_getElem hlt)
      have hlt' : (k : Int) < (I.tops.length : Int) := by omega
      have HNM := hid (nm_take hlt)
      have hbs := HK.out.2.size
      have HB0 := hid HK.out.2
      have HX0 := hid HK.out.1
      generalize I.tops[k] = T at *
      clear c2 HK
      go_upto_region 5 with fail
      have HB1 : Hid (Below w.heap.size w (wr.alloc (.cells #[.string T.name, .int .i64 T.first, .int .i64 T.count] 96))) := HB0.out.alloc hbs _
      have HX1 : Hid ((wr.alloc (.cells #[.string T.name, .int .i64 T.first, .int .i64 T.count] 96)).ownsRow w.heap.size 9 1 (.slice oa' k c) k ((nmL (I.tops.take k)).map encStr)) := HX0.out.alloc _
      have hc0 : (wr.alloc (.cells #[.string T.name, .int .i64 T.first, .int .i64 T.count] 96)).cell? ⟨wr.heap.size, 0, none⟩ = some (.string T.name) := cell_blk (heap_alloc_new _ _) 0 _ rfl
      have hws : (wr.alloc (.cells #[.string T.name, .int .i64 T.first, .int .i64 T.count] 96)).heap.size = wr.heap.size + 1 := by simp
      generalize wr.alloc (.cells #[.string T.name, .int .i64 T.first, .int .i64 T.count] 96) = W1 at *
      have HX : Hid ((W1.alloc (.cells #[.string T.name] 9)).ownsRow w.heap.size 9 1 (.slice oa' k c) k ((nmL (I.tops.take k)).map encStr)) := HX1.out.alloc _
      have HB2 : Hid (Below w.heap.size w (W1.alloc (.cells #[.string T.name] 9))) := HB1.out.alloc HB1.out.size _
      have HN1 : Hid (∀ j u, ([.string T.name] : List Value)[j]? = some u → (W1.alloc (.cells #[.string T.name] 9)).cell? ((⟨W1.heap.size, 0, none⟩ : Addr).add j) = some u) := fun j u hu => by
        cases j with
        | zero => simp at hu; subst hu; rw [add_at]; exact cell_blk (heap_alloc_new _ _) 0 _ rfl
        | succ j => simp at hu
      have HO2 : Hid (∀ u ∈ ([.string T.name] : List Value), u.oneCell' = true) := fun u hu => by simp at hu; subst hu; rfl
      have HWZ : Hid ((W1.alloc (.cells #[.string T.name] 9)).heap.size = W1.heap.size + 1) := by show _ = _; simp
      have hbs1 := HB1.out.size
      have HWS := hid hws
      clear hws
      go_wp2_with (at_builtin; go_loud (refine wpList_append_lies _ rfl _ _ 60 rfl w.heap.size 9 j0 _ 1 16 Tryz.underlying60 hj0 hz0 hz1 hz2 rfl (by decide) _ k _ rfl HX.out ⟨W1.heap.size, 0, none⟩ 1 1 [.string T.name] rfl rfl HN1.out HO2.out (by decide) (by unfold maxLen; omega) (by omega) (by simp; omega) (W1.heap.size + 1) HWZ.out ?_); intro g2 c2 w3 hown3 hg3 hat3 _; have HPS : Hid (NInv w w3 I.tops (k + 1) (.slice (some ⟨g2, 0, none⟩) (k + 1) c2)) := (by rw [HNM.out] at hown3; exact ⟨hown3, HB2.out.grown hg3 HB2.out.size (fun k hk => (World.ownsRow.lt HX.out k hk).1)⟩); clear hown3 hg3 hat3)
      go_roundg (I.tops.length - (k + 1))
      case measure => omega
      case rel => exact ⟨k + 1, some ⟨g2, 0, none⟩, c2, by omega, Nat.le_refl _, rfl, by go_num, HPS.out⟩
    · have hlt' : ¬ (k : Int) < (I.tops.length : Int) := by omega
      obtain rfl : k = I.tops.length := by omega
      go_wp2_with fail
      refine (HSO.out _ _ HK.out).mono ?_
      rintro e w' ⟨rfl, g1, g2⟩
      have G := hid (And.intro g1 g2)
      clear g1 g2 HK
      go_wp2_with fail
      go_ret
      exact ⟨_, rfl, G.out.1, G.out.2⟩
theorem IS.topics {w W : World} {q : Nat} {I : Im} {X : Nat → Prop} (h : IS w W q I X) : Calls Tryz.prog 28 #[.pointer (some ⟨q, 0, none⟩)] W fun e w' => (∃ v, e = .returned v ∧ w'.ownsRow W.heap.size 9 1 v I.tops.length ((srtL I.tops).map encStr)) ∧ Below W.heap.size W w' ∧ IS w w' q I X := by
  obtain ⟨⟨Z, h1, h2⟩, h3, h4⟩ := h
  refine (ktopics_any h1).mono ?_
  rintro e w' ⟨v, rfl, a, hb⟩
  exact ⟨⟨v, rfl, a⟩, hb, IS.under ⟨⟨Z, h1, h2⟩, h3, h4⟩ hb⟩
end Go.Proofs.YtcffomhcmilcpaaGreat

