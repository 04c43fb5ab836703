/- What is read back: the entries of a file. -/
import Derived.Test.YtclldpecbocclaaGreatKG23
import Derived.Test.YtclldpecbocclaaGreatK15
namespace Go.Proofs.YtclldpecbocclaaGreat
open Go.RowKit Go.Maps
set_option maxRecDepth 100000
set_option linter.unusedSimpArgs false
set_option linter.unusedVariables false

theorem logB_drop (l : List Et) (k : Nat) : (logB l).drop (logB (l.take k)).length = logB (l.drop k) := by
  conv => lhs; rw [logB_split l k]
  exact List.drop_left' rfl
theorem logB_dropk (l : List Et) (k : Nat) (x : Et) (h : l[k]? = some x) : logB (l.drop k) = entB x ++ logB (l.drop (k + 1)) := by
  obtain ⟨hk, e⟩ := List.getElem?_eq_some_iff.1 h
  rw [List.drop_eq_getElem_cons hk, e]
  rfl
set_option maxHeartbeats 3200000 in
theorem readEntries_yes (l : List Et) (n : Int) (w : World) (hn : 0 ≤ n ∧ n ≤ 1000000000) (hx : ∀ x ∈ l, (1 ≤ x.t ∧ x.t ≤ 1000000000) ∧ (1 ≤ x.i ∧ x.i ≤ 1000000000) ∧ x.d.length ≤ 2048)
    (h0 : ∀ x, l[0]? = some x → x.i ≤ n + 1) (hc : ∀ k x y, l[k]? = some y → l[k + 1]? = some x → x.i = y.i + 1 ∧ y.t ≤ x.t) (hlen : (logB l).length ≤ 8000000) :
    Calls Tryz.prog 60 #[.string (strOf (logB l)), .int .i64 n] w fun e w' => ∃ v', e = .returned (.tuple #[v', .int .i64 (logB l).length, .int .i64 0]) ∧ EL w' v' l ∧ (∀ k, v'.ownBlock = some k → w.heap.size ≤ k) ∧ Below w.heap.size w w' := by
  obtain ⟨i0, hi0, hz0, hz1, hz2⟩ := info38
  have hge := logB_length_ge l
  have hsz := strOf_size (logB l)
  go_enter Tryz.func60, Tryz.ntmps60
  go_wp2_with fail
  go_loopg [7, 8] l.length (fun kx s7 s8 wr => ∃ (k : Nat) (sv : Value), k ≤ l.length ∧ l.length - k ≤ kx ∧ s8 = .int .i64 ((logB (l.take k)).length : Int) ∧ sv = s7 ∧ (k = 0 → sv = .slice none 0 0) ∧ Hid (wr.ownsRow w.heap.size 37 3 sv k (flatT (l.take k)) ∧ Below w.heap.size w wr))
  case atStart => exact ⟨0, _, by omega, by omega, rfl, rfl, fun _ => rfl, ⟨rfl, .inl ⟨rfl, rfl⟩⟩, Below.refl _ _⟩
  case round =>
    obtain ⟨k, sv, hk, hkx, rfl, rfl, hk0, HI⟩ := hrel
    have hsp := logB_split l k
    have hspl : (logB l).length = (logB (l.take k)).length + (logB (l.drop k)).length := by rw [← List.length_append, ← hsp]
    have HD : Hid ((strOf (logB l)).extract (logB (l.take k)).length (logB l).length = strOf (logB (l.drop k))) := hid (by rw [extract_drop, logB_drop])
    by_cases hlt : k < l.length
    · obtain ⟨x, hxk⟩ : ∃ x, l[k]? = some x := ⟨_, List.getElem?_eq_getElem hlt⟩
      obtain ⟨x1, x2, x3⟩ := hx x (List.mem_of_getElem? hxk)
      have hdk := logB_dropk l k x hxk
      have hml : (logB (l.drop (k + 1))).length ≤ 8000000 := by
        have := congrArg List.length hdk
        rw [List.length_append] at this
        omega
      have hst : (logB (l.take (k + 1))).length = (logB (l.take k)).length + (entB x).length := by
        rw [logB_step l k hlt, List.length_append]
        have : l[k] = x := by rw [List.getElem?_eq_getElem hlt] at hxk; exact Option.some.inj hxk
        rw [this]
      have HF : Hid (flatT (l.take (k + 1)) = flatT (l.take k) ++ [.int .i64 x.t, .int .i64 x.i, .string (strOf x.d)]) := hid (by
        have : l[k] = x := by rw [List.getElem?_eq_getElem hlt] at hxk; exact Option.some.inj hxk
        rw [List.take_succ_eq_append_getElem hlt, flatT_append, this]
        rfl)
      have HS := hid (readEntry_yes x (logB (l.drop (k + 1))) wr x1 x2 x3 (by omega))
      rw [← hdk] at HS
      have hle : (logB (l.take k)).length ≤ (logB l).length := by omega
      have HFO : Hid (∀ W, Below wr.heap.size wr W → Calls Tryz.prog 80 #[.agg #[.int .i64 x.t, .int .i64 x.i, .string (strOf x.d)], sv, .int .i64 n] W fun e w' => e = .returned (.bool true) ∧ Below W.heap.size W w') := hid fun W hW => by
        by_cases hz : k = 0
        · rw [hk0 hz]
          refine (follows_first x n W x2 hn).mono ?_
          rintro e w' ⟨rfl, hb⟩
          have := h0 x (by rw [← hz]; exact hxk)
          exact ⟨by rw [decide_eq_true this], hb⟩
        · have hlk : (l.take k).length = k := by rw [List.length_take]; omega
          have hE : EL W sv (l.take k) := EL.under (show EL wr sv (l.take k) by unfold EL; rw [hlk]; exact ownsRow_low HI.out.1) hW
          obtain ⟨oa, cap, rfl, _, _, _, _⟩ := hE.shape
          obtain ⟨y, hy⟩ : ∃ y, l[k - 1]? = some y := ⟨_, List.getElem?_eq_getElem (by omega)⟩
          obtain ⟨e1, e2⟩ := hc (k - 1) x y hy (by rw [show k - 1 + 1 = k by omega]; exact hxk)
          exact follows_next x y (l.take k) oa cap n W hE (by omega) (by rw [hlk, List.getElem?_take, if_pos (by omega)]; exact hy) (by omega) e1 e2 x2
      have hsh : ∃ o n c, sv = .slice o n c := by
        rcases HI.out.1.2 with ⟨e, _⟩ | ⟨g, cap', cur, e, _⟩
        · exact ⟨_, _, _, e⟩
        · exact ⟨_, _, _, e⟩
      have HST := hid hst
      have hkm : k < 1000000 := by omega
      have hel := entB_length x
      have hbl := bodyE_length x
      have hNl : (logB (l.take k)).length ≤ 8000000 := by omega
      clear hspl hsp hk0 hx h0 hc hdk hst hxk hge
      obtain ⟨o, m, c, rfl⟩ := hsh
      generalize hLB : logB l = LB0 at *
      generalize hN : LB0.length = N at *
      generalize hA : (logB (l.take k)).length = A at *
      generalize logB (l.drop k) = DK at *
      generalize (entB x).length = EN at *
      obtain ⟨xt, xi, xd⟩ := x
      simp only at *
      have hleI : (A : Int) ≤ (N : Int) := by omega
      have hA0 : (0 : Int) ≤ (A : Int) := by omega
      go_wp2_with fail
      rw [HD.out]
      refine HS.out.mono ?_
      rintro e w2 ⟨rfl, hb2⟩
      have HB2 := hid (hb2.alloc hb2.size (.cells #[.int .i64 xt, .int .i64 xi, .string (strOf xd)] 37))
      have HX2 := hid (heap_alloc_new w2 (.cells #[.int .i64 xt, .int .i64 xi, .string (strOf xd)] 37))
      have cx0 := cell_blk HX2.out 0 _ rfl
      have cx1 := cell_blk HX2.out 1 _ rfl
      have cx2 := cell_blk HX2.out 2 _ rfl
      clear hb2
      have HF3 := hid (HFO.out _ HB2.out)
      go_wp2_with fail
      refine HF3.out.mono ?_
      rintro e w4 ⟨rfl, hb4⟩
      have HX4 := hid ((hb4.block _ (lt_blk HX2.out)).trans HX2.out)
      have HB4 := hid (HB2.out.trans (hb4.mono HB2.out.size))
      have HBW := hid (HI.out.2.trans (HB4.out.mono HI.out.2.size))
      have hbw := HBW.out.size
      have dx0 := cell_blk HX4.out 0 _ rfl
      have dx1 := cell_blk HX4.out 1 _ rfl
      have dx2 := cell_blk HX4.out 2 _ rfl
      have HR : Hid ((w4.alloc (.cells #[.int .i64 xt, .int .i64 xi, .string (strOf xd)] 37)).ownsRow w.heap.size 37 3 (.slice o m c) k (flatT (l.take k))) := by
        obtain ⟨g1, g2⟩ := HI.out.1
        rcases g2 with g2 | ⟨g, cap, cur, e, hB, hg, r⟩
        · exact ⟨g1, .inl g2⟩
        · exact ⟨g1, .inr ⟨g, cap, cur, e, hB, blk_alloc ((HB4.out.block _ (lt_blk hg)).trans hg) _, r⟩⟩
      have HNW : Hid (∀ j u, ([.int .i64 xt, .int .i64 xi, .string (strOf xd)] : List Value)[j]? = some u → (w4.alloc (.cells #[.int .i64 xt, .int .i64 xi, .string (strOf xd)] 37)).cell? ((⟨w4.heap.size, 0, none⟩ : Addr).add j) = some u) := fun j u hu => by
        rw [add_lit0]
        exact cell_at (heap_alloc_new w4 _) (by simpa using hu)
      have HON : Hid (∀ u ∈ ([.int .i64 xt, .int .i64 xi, .string (strOf xd)] : List Value), u.oneCell' = true) := by intro u hu; simp at hu; rcases hu with rfl | rfl | rfl <;> rfl
      have HGR : Hid (∀ w2, (w4.alloc (.cells #[.int .i64 xt, .int .i64 xi, .string (strOf xd)] 37)).grownBy w2 (Value.slice o m c).ownBlock → Below w.heap.size w w2) := fun w2 hg => (HBW.out.alloc hbw _).grown hg (by simp; omega) (fun j hj => (World.ownsRow.lt HI.out.1 j hj).1)
      generalize flatT (l.take k) = F at *
      clear hb4 cx0 cx1 cx2
      go_wp2_with (at_builtin; refine wpList_append_own_at _ rfl _ _ 31 rfl w.heap.size 37 i0 _ 3 32 Tryz.underlying31 hi0 hz0 hz1 hz2 rfl (by decide) _ k F rfl HR.out ⟨w4.heap.size, 0, none⟩ 1 1 [.int .i64 xt, .int .i64 xi, .string (strOf xd)] rfl rfl HNW.out HON.out (by unfold maxLen; omega) (by omega) (by simp; omega) ?_; intro v' w5 hown2 hg2 _ hat)
      go_roundg (l.length - (k + 1))
      case measure => omega
      case rel => exact ⟨k + 1, v', by omega, Nat.le_refl _, by rw [HST.out, hel]; go_num, rfl, fun h => by omega, by rw [HF.out]; exact hown2, HGR.out _ hg2⟩
    · have e : k = l.length := by omega
      subst e
      have hsh : ∃ o n c, sv = .slice o n c := by
        rcases HI.out.1.2 with ⟨e, _⟩ | ⟨g, cap', cur, e, _⟩
        · exact ⟨_, _, _, e⟩
        · exact ⟨_, _, _, e⟩
      obtain ⟨o, m, c, rfl⟩ := hsh
      clear hspl hsp hk0 hx h0 hc hkx hk hlt
      rw [List.drop_length, List.take_length] at HD
      rw [List.take_length]
      rw [List.take_length] at HI
      have HS := hid (readEntry_short (logB []) wr (by simp [logB]))
      generalize hLB : logB l = LB0 at *
      generalize hN : LB0.length = N at *
      have dN : (N : Int) ≤ (N : Int) := by omega
      go_wp2_with fail
      have eS : ByteArray.empty = strOf (logB []) := rfl
      rw [eS]
      refine HS.out.mono ?_
      rintro e w2 ⟨rfl, hb2⟩
      have HB2 := hid (HI.out.2.trans (hb2.mono HI.out.2.size))
      have HBA := hid (HB2.out.alloc HB2.out.size (.cells #[.int .i64 0, .int .i64 0, .string ⟨#[]⟩] 37))
      have HE : Hid (EL (w2.alloc (.cells #[.int .i64 0, .int .i64 0, .string ⟨#[]⟩] 37)) (.slice o m c) l) := hid (EL.under (EL.under (ownsRow_low HI.out.1) hb2) ((Below.refl _ _).alloc (Nat.le_refl _) _))
      clear hb2
      go_wp2_with fail
      refine bodyPost_ret (v := .tuple #[.slice o m c, .int .i64 (N : Int), .int .i64 0]) (by simp [results, Tryz.results60, go_sem]) rfl ⟨_, by rw [hLB, hN], HE.out, fun j hj => (World.ownsRow.lt HI.out.1 j hj).1, HBA.out⟩
end Go.Proofs.YtclldpecbocclaaGreat

