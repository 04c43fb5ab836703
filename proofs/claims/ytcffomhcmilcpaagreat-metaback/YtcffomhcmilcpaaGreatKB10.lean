/- Epochs are read back; Load. -/
import Derived.Test.YtcffomhcmilcpaaGreatKB9
import Derived.Test.YtcffomhcmilcpaaGreatK7
namespace Go.Proofs.YtcffomhcmilcpaaGreat
open Go.RowKit Go.Maps
set_option maxRecDepth 100000
set_option linter.unusedSimpArgs false
set_option linter.unusedVariables false

@[reducible] def wEp (J : Im) (es : List Int) : Im := { J with eps := es }
/-- Another row of epochs, apart from the image. -/
theorem ImC.withE {w : World} {L : Nat → Prop} {q b : Nat} {vt vp ve v2 : Value} {ps : List (Value × Pt)} {I : Im} (h : ImC w L q b vt vp ve ps I) {es : List Int} (hrow : w.ownsRow 0 3 1 v2 es.length (intsV es)) (hnew : ∀ k, v2.ownBlock = some k → ¬ (Own q b vt vp ve k ∨ L k)) (hok : ImOk (wEp I es)) :
    ImC (w.setCell ⟨q, 4, none⟩ v2) L q b vt vp v2 ps (wEp I es) := by
  have hN : ∀ k, k ≠ q → (w.setCell ⟨q, 4, none⟩ v2).heap[k]? = w.heap[k]? := fun k hk => Below.heap_setCell _ _ _ _ hk
  refine ⟨set_box h.cells, ?_, row_kept h.tops (fun k hk => hN k (fun e => h.ne_q.1 (by rw [← e]; exact hk))), row_kept h.parts (fun k hk => hN k (fun e => h.ne_q.2.1 (by rw [← e]; exact hk))), row_kept hrow (fun k hk => hN k (fun e => hnew k hk (.inl (.inl e)))), fun y hy => ?_, h.abs, fun k hk => ⟨by simpa using (h.lists k hk).1, ?_⟩, hok⟩
  · obtain ⟨es2, clock, hm, r⟩ := h.bmap
    exact ⟨es2, clock, (hN b (fun e => h.ne_qb e.symm)).trans hm, r⟩
  · obtain ⟨h1, h2⟩ := h.each y hy
    exact ⟨h1.kept h2 (fun k hk => hN k (fun e => (h.lists k hk).2 (.inl e))) (by simp), h2⟩
  · rintro (e | e | e | e | e)
    · exact (h.lists k hk).2 (.inl e)
    · exact (h.lists k hk).2 (.inr (.inl e))
    · exact (h.lists k hk).2 (.inr (.inr (.inl e)))
    · exact (h.lists k hk).2 (.inr (.inr (.inr (.inl e))))
    · exact hnew k e (.inr hk)
set_option maxHeartbeats 6400000 in
theorem readEps_any {w U : World} {q x : Nat} {J : Im} {es : List Int} {l : List UInt8} (h : LE w U q x (wEp J []) (lstB es ++ l)) (hok : ImOk (wEp J es)) :
    Calls Tryz.prog 47 #[.pointer (some ⟨q, 0, none⟩), .pointer (some ⟨x, 0, none⟩)] U fun e w' => e = .returned (.bool true) ∧ LE w w' q x (wEp J es) l := by
  obtain ⟨Z, h⟩ := h
  have hl : es.length ≤ 1000 := hok.eps
  have HV := hid hok.epv
  have HOK := hid hok
  have HI64 : Hid (∀ n ∈ es, I64 n) := fun n hn => by have := hok.epv n hn; unfold I64; omega
  have HRL := hid (readList_any h (most := 1000) (by omega) (by omega) HI64.out)
  have HZL := hid h.1.1.lt
  have hww := h.below.size
  have hxU := h.lt
  clear h hok
  go_enter Tryz.func47, Tryz.ntmps47
  go_wp2_with fail
  refine HRL.out.mono ?_
  rintro e V ⟨v, rfl, hil, hin, hrow, ho⟩
  obtain ⟨av, cv, rfl, _⟩ := row_shape (row_base hrow (Nat.zero_le _))
  obtain ⟨⟨⟨L, b, vt, vp, ve, ps, h1, hz1, hz2, hz3⟩, h2⟩, h3, h4, h5⟩ := ho.1
  have hfr : ∀ k, (Value.slice av es.length cv).ownBlock = some k → U.heap.size ≤ k := fun k hk => (World.ownsRow.lt hrow k hk).1
  have hI : ImC (V.setCell ⟨q, 4, none⟩ (.slice av es.length cv)) L q b vt vp (.slice av es.length cv) ps (wEp (wEp J []) es) := h1.withE (row_base hrow (Nat.zero_le _)) (fun k hk ho' => by
    have h8 := hfr k hk
    have := HZL.out k (ho'.elim (hz1 k) (hz2 k))
    omega) HOK.out
  have hqx : q ≠ x := (h2 q (hz1 q (.inl rfl))).2
  have hqw : w.heap.size ≤ q := (h2 q (hz1 q (.inl rfl))).1
  have HN : Hid (LE w (V.setCell ⟨q, 4, none⟩ (.slice av es.length cv)) q x (wEp J es) l) := by
    refine ⟨fun j => Own q b vt vp (.slice av es.length cv) j ∨ L j, ⟨⟨L, b, vt, vp, _, ps, hI, fun j hj => .inl hj, fun j hj => .inr hj, fun j hj => hj.elim (fun h => hI.lt h) (fun h => (hI.lists j h).1)⟩, fun j hj => ?_⟩, h3.kept (Below.heap_setCell _ _ _ _ (fun e => hqx e.symm)), h4, h5.setCell hqw _⟩
    have key : ∀ j, Own q b vt vp ve j → w.heap.size ≤ j ∧ j ≠ x := fun j h => h2 j (hz1 j h)
    rcases hj with (e | e | e | e | e) | e
    · exact key j (.inl e)
    · exact key j (.inr (.inl e))
    · exact key j (.inr (.inr (.inl e)))
    · exact key j (.inr (.inr (.inr (.inl e))))
    · have := hfr j e; omega
    · exact h2 j (hz2 j e)
  have c4 := h1.c4
  have f4 := h1.fz 4
  have HC4 := hid hI.c4
  have HIL : Hid (IL (V.setCell ⟨q, 4, none⟩ (.slice av es.length cv)) (.slice av es.length cv) es) := (il_of_row hI.eps HI64.out (by show es.length ≤ _; omega)).1
  clear hil hin hrow ho h1 h2 h3 h4 h5 hz1 hz2 hz3 hI HRL hqx hqw hfr
  go_upto_region 2 with fail
  generalize V.setCell ⟨q, 4, none⟩ (.slice av es.length cv) = N at *
  have c4' := HC4.out
  clear c4 f4
  go_wp2_with fail
  obtain ⟨⟨a', c', e', _, _, _, hat⟩, _, _⟩ := id HIL.out
  obtain ⟨rfl, _, rfl⟩ := Value.slice.inj e'
  have HAT := hid hat
  clear hat e' c4'
  go_loopg [17] es.length (fun kx s17 wr => ∃ (k : Nat), k ≤ es.length ∧ es.length - k ≤ kx ∧ s17 = .int .i64 (k : Int) ∧ wr = N)
  case atStart => exact ⟨0, Nat.zero_le _, by omega, rfl, rfl⟩
  case round =>
    obtain ⟨k, hk, hkx, rfl, rfl⟩ := hrel
    by_cases hlt : k < es.length
    · have hlt' : (k : Int) < (es.length : Int) := by omega
      obtain ⟨bb, off, rfl, hb, hc⟩ := HAT.out (by intro e; rw [e] at hlt; simp at hlt)
      have hck := hc k hlt
      have hev := HV.out es[k] (List.getElem_mem hlt)
      clear hc
      generalize es[k] = y at *
      obtain ⟨v1, v2⟩ := hev
      have v1' : ¬ (y < 0) := by omega
      have v2' : ¬ (1000000000 < y) := by omega
      go_wp2_with fail
      go_roundg (es.length - (k + 1))
      case measure => omega
      case rel => exact ⟨k + 1, by omega, Nat.le_refl _, by go_num, rfl⟩
    · have hlt' : ¬ (k : Int) < (es.length : Int) := by omega
      go_wp2_with fail
      go_ret
      exact ⟨rfl, HN.out⟩
end Go.Proofs.YtcffomhcmilcpaaGreat

