/- What the document's disk does: Crash, New. -/
import Derived.Test.YtjggdecjnnpjaaaGreatH17
namespace Go.Proofs.YtjggdecjnnpjaaaGreat
open Go.RowKit Go.Maps Go.Sort
set_option maxRecDepth 100000
set_option linter.unusedSimpArgs false
set_option linter.unusedVariables false

set_option maxHeartbeats 800000 in
theorem rnew_yes (n : Nat) (w : World) (h1 : 1 ≤ n) (h2 : n ≤ 16777216) :
    Calls Tryz.prog 7 #[.int .i64 (n : Int)] w fun e w' => e = .returned (.pointer (some ⟨w.heap.size, 0, none⟩)) ∧ RefM w' (fun k => k = w.heap.size) w.heap.size n (.slice none 0 0) [] ∧ Below w.heap.size w w' := by
  have h3 : ¬ ((n : Int) < 1) := by omega
  have h4 : ¬ (16777216 < (n : Int)) := by omega
  have HR : Hid (RefM (w.alloc (.cells #[.int .i64 (n : Int), .slice none 0 0] 58)) (fun k => k = w.heap.size) w.heap.size n (.slice none 0 0) [] ∧ Below w.heap.size w (w.alloc (.cells #[.int .i64 (n : Int), .slice none 0 0] 58))) :=
    ⟨⟨fun k hk => by subst hk; simp, rfl, heap_alloc_new w _, World.ownsRow_nil _ _ _ _, fun k hk => by cases hk⟩, (Below.refl _ _).alloc (Nat.le_refl _) _⟩
  go_enter Tryz.func7, Tryz.ntmps7
  go_wp2
  go_ret
  exact ⟨rfl, HR.out⟩
set_option maxHeartbeats 800000 in
theorem rnew_no (n : Int) (w : World) (h : ¬ (1 ≤ n ∧ n ≤ 16777216)) (hi : -9223372036854775808 ≤ n ∧ n ≤ 9223372036854775807) :
    Calls Tryz.prog 7 #[.int .i64 n] w fun e w' => e = .returned (.pointer none) ∧ w' = w := by
  by_cases h1 : n < 1
  · go_enter Tryz.func7, Tryz.ntmps7
    go_wp2
    go_ret
    exact ⟨rfl, rfl⟩
  · have h2 : 16777216 < n := by omega
    go_enter Tryz.func7, Tryz.ntmps7
    go_wp2
    go_ret
    exact ⟨rfl, rfl⟩

theorem crash_set {l : List AF} {ks : List Int} {j : Nat} {x : AF} (hx : l[j]? = some x) (hd : x.bs.length ≠ x.safe) : crashL ks 0 (j + 1) l = (crashL ks 0 j l).set j ⟨x.name, x.bs.take (x.safe + keptN ks (dirtyN j l) (x.bs.length - x.safe)), x.safe + keptN ks (dirtyN j l) (x.bs.length - x.safe)⟩ := by
  have := crashL_dirty ks 0 j l x hx hd
  rw [Nat.zero_add] at this
  exact this
/-- Where Crash stands. -/
structure CrAt (w wr : World) (T : Nat → Prop) (r size g cap : Nat) (ks : List Int) (j : Nat) (l : List AF) : Prop where
  ref : RefM wr T r size (.slice (some ⟨g, 0, none⟩) l.length cap) (crashL ks 0 j l)
  keep : Keeps T w wr
theorem CrAt.ref' {w wr T r size g cap ks j l} (h : CrAt w wr T r size g cap ks j l) : RefM wr T r size (.slice (some ⟨g, 0, none⟩) (crashL ks 0 j l).length cap) (crashL ks 0 j l) := by rw [crashL_length]; exact h.ref
theorem CrAt.drewN {w wr T r size g cap ks j l} (h : CrAt w wr T r size g cap ks j l) (n : Nat) : CrAt w (wr.drewN n) T r size g cap ks j l := ⟨h.ref.under (below_drewN (Below.refl _ _) n), h.keep.trans (T := T) (Keeps.of_below (below_drewN (Below.refl _ _) n)) (fun x hx => .inl hx)⟩
theorem CrAt.clean {w wr T r size g cap ks j} {l : List AF} {x : AF} (h : CrAt w wr T r size g cap ks j l) (hx : l[j]? = some x) (hd : x.bs.length = x.safe) : CrAt w wr T r size g cap ks (j + 1) l := by
  have e := crashL_clean ks 0 j l x hx hd
  exact ⟨by rw [e]; exact h.ref, h.keep⟩
theorem CrAt.dirty {w wr T r size g cap ks j} {l : List AF} {x : AF} (h : CrAt w wr T r size g cap ks j l) (hx : l[j]? = some x) (hd : x.bs.length ≠ x.safe) :
    CrAt w ((wr.setCell ⟨g, j * 3 + 1, none⟩ (.string (strOf (x.bs.take (x.safe + keptN ks (dirtyN j l) (x.bs.length - x.safe)))))).setCell ⟨g, j * 3 + 2, none⟩ (.int .i64 ((x.safe : Int) + (keptN ks (dirtyN j l) (x.bs.length - x.safe) : Int)))) T r size g cap ks (j + 1) l := by
  have hx' : (crashL ks 0 j l)[j]? = some x := (crashL_at ks 0 j l).trans hx
  have h1 := h.ref'.set1 hx' (x.bs.take (x.safe + keptN ks (dirtyN j l) (x.bs.length - x.safe)))
  have h3 := h1.set2 (set_at hx') (x.safe + keptN ks (dirtyN j l) (x.bs.length - x.safe))
  rw [set_set] at h3
  have hT := h.ref.rowT g rfl
  have ec : ((x.safe + keptN ks (dirtyN j l) (x.bs.length - x.safe) : Nat) : Int) = (x.safe : Int) + (keptN ks (dirtyN j l) (x.bs.length - x.safe) : Int) := by omega
  rw [ec] at h3
  refine ⟨?_, ?_⟩
  · have e := crash_set (ks := ks) hx hd
    rw [e]
    have hlen : ((crashL ks 0 j l).set j ⟨x.name, x.bs.take (x.safe + keptN ks (dirtyN j l) (x.bs.length - x.safe)), x.safe + keptN ks (dirtyN j l) (x.bs.length - x.safe)⟩).length = l.length := by rw [List.length_set, crashL_length]
    rw [hlen] at h3
    exact h3
  · exact (h.keep.trans (dkeeps_set hT) (fun x hx => .inl hx)).trans (dkeeps_set hT) (fun x hx => .inl hx)
theorem kept_pos {ks : List Int} {d lo : Nat} {k : Int} (h : ks[d]? = some k) (h0 : ¬ k < 0) : k.tmod ((lo : Int) + 1) = (keptN ks d lo : Int) := by
  unfold keptN
  rw [h]
  simp only [h0, if_false]
  rw [Int.tmod_eq_emod_of_nonneg (by omega)]
  have := Int.emod_nonneg k (show (lo : Int) + 1 ≠ 0 by omega)
  omega
theorem kept_neg {ks : List Int} {d lo : Nat} {k : Int} (h : ks[d]? = some k) (h0 : k < 0) : (-(k + 1)).tmod ((lo : Int) + 1) = (keptN ks d lo : Int) := by
  unfold keptN
  rw [h]
  simp only [h0, if_true]
  rw [Int.tmod_eq_emod_of_nonneg (by omega)]
  have := Int.emod_nonneg (-(k + 1)) (show (lo : Int) + 1 ≠ 0 by omega)
  omega

set_option maxHeartbeats 3200000 in
theorem rcrash_any {w : World} {T : Nat → Prop} {r size : Nat} {v : Value} {l : List AF} (h : RefM w T r size v l) (hk : LOk size l) (oa : Option Addr) (ks : List Int) (cp : Nat) (hks : dIntsAt w oa ks) (hlen : ks.length ≤ maxLen) (hkT : ks ≠ [] → ∀ b off, oa = some ⟨b, off, none⟩ → b < w.heap.size ∧ ¬ T b) :
    Calls Tryz.prog 18 #[.pointer (some ⟨r, 0, none⟩), .slice oa ks.length cp] w fun e w' => e = .returned (.tuple #[]) ∧ RAfter T w w' r size (crashL ks 0 l.length l) := by
  have hl := hk.len
  by_cases h0 : l = []
  · subst h0
    have hv : v = .slice none 0 0 ∨ ∃ g cap, v = .slice (some ⟨g, 0, none⟩) 0 cap := by
      rcases h.row.2 with ⟨e, _⟩ | ⟨g, cap, cur, e, _⟩
      · exact .inl e
      · exact .inr ⟨g, cap, e⟩
    have HR := hid (RAfter.same h (Below.refl _ _))
    have c1 := h.c1
    clear h
    rcases hv with rfl | ⟨g, cap, rfl⟩
    · go_enter Tryz.func18, Tryz.ntmps18
      go_wp2
      refine wp_loop_rounds 1 ?_
      rw [rounds_succ]
      go_wp2
      go_end0
      exact ⟨rfl, HR.out⟩
    · go_enter Tryz.func18, Tryz.ntmps18
      go_wp2
      refine wp_loop_rounds 1 ?_
      rw [rounds_succ]
      go_wp2
      go_end0
      exact ⟨rfl, HR.out⟩
  have hpos : 0 < l.length := List.length_pos_iff.2 h0
  obtain ⟨oa2, cap, rfl, hcap, hcm, hoa, _⟩ := h.shape
  obtain ⟨g, rfl⟩ := hoa hpos
  have HI0 : Hid (CrAt w w T r size g cap ks 0 l) := ⟨h, Keeps.refl _ _⟩
  have HKs : Hid (∀ wr, Keeps T w wr → ∀ d (hd : d < ks.length), ∃ b off, oa = some ⟨b, off, none⟩ ∧ wr.cell? ⟨b, off + d, none⟩ = some (.int .i64 ks[d]) ∧ -9223372036854775808 ≤ ks[d] ∧ ks[d] ≤ 9223372036854775807) := fun wr hkp d hd => by
    rcases hks with e | ⟨b, off, e, hc⟩
    · rw [e] at hd; simp at hd
    · obtain ⟨h1, h2⟩ := hkT (fun e => by rw [e] at hd; simp at hd) b off e
      exact ⟨b, off, e, (World.cell?_of_block (a := ⟨b, off + d, none⟩) (hkp.block b h1 h2)).trans (hc d hd).1, (hc d hd).2⟩
  have HL := hid hk
  have hT := h.rowT g rfl
  unfold maxLen at hlen
  clear h hks hkT hk hoa hT h0
  go_enter Tryz.func18, Tryz.ntmps18
  go_wp2
  go_loopg [4, 5] l.length (fun kx s4 s5 wr => ∃ j : Nat, j ≤ l.length ∧ l.length - j ≤ kx ∧ s4 = .int .i64 (dirtyN j l : Int) ∧ s5 = .int .i64 (j : Int) ∧ Hid (CrAt w wr T r size g cap ks j l))
  case atStart => exact ⟨0, Nat.zero_le _, by omega, rfl, rfl, HI0⟩
  case round =>
    clear HI0
    obtain ⟨j, hj, hkx, rfl, rfl, HI⟩ := hrel
    have c1 := HI.out.ref.c1
    by_cases hlt : j < l.length
    case neg =>
      have hlt' : ¬ (j : Int) < (l.length : Int) := by omega
      obtain rfl : j = l.length := by omega
      have HR := hid (RAfter.in HI.out.ref HI.out.keep)
      clear HI
      go_wp2_with fail
      go_end0
      exact ⟨rfl, HR.out⟩
    have hlt' : (j : Int) < (l.length : Int) := by omega
    obtain ⟨x, hx⟩ : ∃ x, l[j]? = some x := ⟨_, List.getElem?_eq_getElem hlt⟩
    have hxm := mem_at hx
    have hxs := (HL.out.safe x hxm).1
    have hxb : x.bs.length ≤ 16777216 := by have := total_mem hxm; have := HL.out.total; have := HL.out.big; omega
    have hx' : (crashL ks 0 j l)[j]? = some x := (crashL_at ks 0 j l).trans hx
    obtain ⟨p0, p1, p2⟩ := HI.out.ref'.at_ j x hx'
    have hsz := strOf_sz x.bs
    have f1 := HI.out.ref'.free (j * 3 + 1)
    have f2 := HI.out.ref'.free (j * 3 + 2)
    have hdj := dirtyN_le j l
    by_cases hd : x.bs.length = x.safe
    · have HN1 := hid (HI.out.clean hx hd)
      have hdn := hid (dirtyN_clean j l x hx hd)
      have hq : (x.bs.length : Int) - (x.safe : Int) = 0 := by omega
      clear hx hx' hxm hd p0 HI
      generalize strOf x.bs = S0 at *
      generalize x.bs.length = L0 at *
      generalize x.safe = F0 at *
      go_wp2_with fail
      go_quiet (fail)
      go_wp2_with fail
      go_roundg (l.length - (j + 1))
      case measure => omega
      case rel => exact ⟨j + 1, by omega, Nat.le_refl _, by rw [hdn.out], by go_num, HN1.out.drewN _⟩
    · have HN1 := hid (fun wr (h : CrAt w wr T r size g cap ks j l) => h.dirty hx hd)
      have hdn := hid (dirtyN_dirty j l x hx hd)
      have HKp := hid HI.out.keep
      have HII := hid HI.out
      obtain ⟨lo, hlo⟩ : ∃ lo, lo = x.bs.length - x.safe := ⟨_, rfl⟩
      rw [← hlo] at HN1
      have hq : (x.bs.length : Int) - (x.safe : Int) = (lo : Int) := by omega
      have hlo0 : ¬ (lo : Int) = 0 := by omega
      have hlo1 : ((lo : Int) == 0) = false := by simp; omega
      have hlob : lo ≤ 16777216 := by omega
      have hkn := keptN_le ks (dirtyN j l) lo
      have hx1 := extract_take2 x.bs (x.safe + keptN ks (dirtyN j l) lo)
      have hsz1 : (strOf (x.bs.take (x.safe + keptN ks (dirtyN j l) lo))).size = x.safe + keptN ks (dirtyN j l) lo := by rw [strOf_sz, List.length_take]; omega
      have hbd : x.safe + keptN ks (dirtyN j l) lo ≤ x.bs.length := by omega
      have hbd' : ((x.safe : Int) + (keptN ks (dirtyN j l) lo : Int)) ≤ (x.bs.length : Int) := by omega
      have htn : ((x.safe : Int) + (keptN ks (dirtyN j l) lo : Int)).toNat = x.safe + keptN ks (dirtyN j l) lo := by omega
      by_cases hdk : dirtyN j l < ks.length
      · have hdk' : (dirtyN j l : Int) < (ks.length : Int) := by omega
        obtain ⟨b, off, rfl, hcell, hk1, hk2⟩ := HKs.out _ HKp.out _ hdk
        have hkd : ks[dirtyN j l]? = some ks[dirtyN j l] := List.getElem?_eq_getElem hdk
        generalize ks[dirtyN j l] = k at *
        by_cases hneg : k < 0
        · have hm := kept_neg (lo := lo) hkd hneg
          have hm2 : -((k + 1).tmod ((lo : Int) + 1)) = (keptN ks (dirtyN j l) lo : Int) := by rw [← hm, neg_tmod]
          clear hx hx' hxm hd p0 HI hlo hkd
          generalize keptN ks (dirtyN j l) lo = kn at *
          generalize x.bs.take (x.safe + kn) = B1 at *
          generalize strOf B1 = S1 at *
          generalize strOf x.bs = S0 at *
          generalize x.bs.length = L0 at *
          generalize hdd : dirtyN j l = dj at *
          go_wp2_with fail
          go_quiet (fail)
          go_wp2_with fail
          go_region
          all_goals
            go_wp2_with fail
            go_roundg (l.length - (j + 1))
            case measure => omega
            case rel => exact ⟨j + 1, by omega, Nat.le_refl _, by rw [hdn.out]; go_num, by go_num, HN1.out _ (HII.out.drewN _)⟩
        · have hm := kept_pos (lo := lo) hkd hneg
          clear hx hx' hxm hd p0 HI hlo hkd
          generalize keptN ks (dirtyN j l) lo = kn at *
          generalize x.bs.take (x.safe + kn) = B1 at *
          generalize strOf B1 = S1 at *
          generalize strOf x.bs = S0 at *
          generalize x.bs.length = L0 at *
          generalize hdd : dirtyN j l = dj at *
          go_wp2_with fail
          go_quiet (fail)
          go_wp2_with fail
          go_region
          all_goals
            go_wp2_with fail
            go_roundg (l.length - (j + 1))
            case measure => omega
            case rel => exact ⟨j + 1, by omega, Nat.le_refl _, by rw [hdn.out]; go_num, by go_num, HN1.out _ (HII.out.drewN _)⟩
      · have hdk' : ¬ (dirtyN j l : Int) < (ks.length : Int) := by omega
        have hm0 : keptN ks (dirtyN j l) lo = 0 := by
          unfold keptN
          rw [List.getElem?_eq_none (by omega)]
        have hm : (0 : Int).tmod ((lo : Int) + 1) = (keptN ks (dirtyN j l) lo : Int) := by rw [hm0]; simp
        have HM0 := hid hm0
        clear hm0
        clear hx hx' hxm hd p0 HI hlo 
        generalize keptN ks (dirtyN j l) lo = kn at *
        generalize x.bs.take (x.safe + kn) = B1 at *
        generalize strOf B1 = S1 at *
        generalize strOf x.bs = S0 at *
        generalize x.bs.length = L0 at *
        generalize hdd : dirtyN j l = dj at *
        go_wp2_with fail
        go_quiet (fail)
        go_wp2_with fail
        go_region
        all_goals
          go_wp2_with fail
          go_roundg (l.length - (j + 1))
          case measure => omega
          case rel => exact ⟨j + 1, by omega, Nat.le_refl _, by rw [hdn.out]; go_num, by go_num, HN1.out _ (HII.out.drewN _)⟩
end Go.Proofs.YtjggdecjnnpjaaaGreat

