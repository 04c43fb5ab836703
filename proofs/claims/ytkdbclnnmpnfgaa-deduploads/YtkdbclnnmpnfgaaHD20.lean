/- Keep: the walk. -/
import Derived.Test.YtkdbclnnmpnfgaaHD19
namespace Go.Proofs.Ytkdbclnnmpnfgaa
open Go.RowKit Go.Maps Go.Sort
set_option maxRecDepth 100000
set_option linter.unusedSimpArgs false
set_option linter.unusedVariables false

theorem keyCell {w : World} {B : Nat} {v : Value} {ks : List Int} (h : w.ownsRow B 3 1 v ks.length (ks.map fun k => .int .i64 k)) (i : Nat) (hi : i < ks.length) : ∃ g c, v = .slice (some ⟨g, 0, none⟩) ks.length c ∧ w.cell? ⟨g, i, none⟩ = some (.int .i64 ks[i]) := by
  obtain ⟨h1, ⟨rfl, h0⟩ | ⟨g, cap, cur, rfl, hB, hg, hn, hc, hs, ht⟩⟩ := id h
  · omega
  · refine ⟨g, cap, rfl, ?_⟩
    have := World.ownsRow.cells h (g := g) rfl i (.int .i64 ks[i]) (by simp [hi])
    rwa [add_lit0] at this
theorem row_shape {w : World} {B : Nat} {v : Value} {n : Nat} {xs : List Value} (h : w.ownsRow B 3 1 v n xs) : ∃ oa c, v = .slice oa n c := by
  obtain ⟨h1, ⟨rfl, h0⟩ | ⟨g, cap, cur, rfl, hB, hg, hn, hc, hs, ht⟩⟩ := h
  · exact ⟨none, 0, by rw [h0]⟩
  · exact ⟨_, _, rfl⟩

/-- The bytes so far, beside the row of keys. -/
def KInv (w w3 wr : World) (ka : Option Addr) (sv : Value) (L : List UInt8) : Prop :=
  Row wr w.heap.size sv L ∧ Below w.heap.size w wr ∧ ∀ g, ka = some ⟨g, 0, none⟩ → wr.heap[g]? = w3.heap[g]? ∧ sv.ownBlock ≠ some g ∧ g < wr.heap.size
theorem KInv.step {w w3 wr w' : World} {ka : Option Addr} {sv v' : Value} {L L' : List UInt8} (h : KInv w w3 wr ka sv L) (h1 : Row w' w.heap.size v' L') (h2 : Below w.heap.size wr w') (h3 : Grow wr w' sv v') : KInv w w3 w' ka v' L' := by
  refine ⟨h1, h.2.1.trans h2, fun g hg => ?_⟩
  obtain ⟨a, b, c⟩ := h.2.2 g hg
  obtain ⟨g1, g2, g3⟩ := h3.block c b
  exact ⟨g1.trans a, g2, g3⟩
theorem KInv.alloc {w w3 wr : World} {ka : Option Addr} {sv : Value} {L : List UInt8} (h : KInv w w3 wr ka sv L) (O : Obj) : KInv w w3 (wr.alloc O) ka sv L :=
  h.step (h.1.alloc O) ((Below.refl _ _).alloc h.2.1.size O) ((Grow.refl wr sv).alloc O)

set_option maxHeartbeats 12800000 in
theorem keep_any {w : World} {S : Nat → Prop} {q : Nat} {T : Tb} (h : Tab w S q T) :
    Calls Try.prog 21 #[.pointer (some ⟨q, 0, none⟩)] w fun e w' => e = .returned (.string (strOf (keepB T))) ∧ Below w.heap.size w w' := by
  obtain ⟨b, fs, h, rfl⟩ := h
  have HM := hid h
  have c0 := h.c0
  have hlen := h.len
  have hfl : fs.length ≤ 100000 := by have := h.ok.len; unfold abs at this; simpa using this
  have hcnt := h.ok.few
  have HAL : Hid ((abs fs).length = fs.length) := by show _ = _; unfold abs; simp
  have H1 := hid (one48 (Row.nil w w.heap.size) (Nat.le_refl _) (fs.length : Int) ⟨by omega, by omega⟩ (by simp))
  have HK : Hid (keepB (abs fs) = sealL (intL (fs.length : Int) ++ tabB (abs fs))) := by show _ = _; unfold keepB; rw [HAL.out]
  clear h
  go_enter Try.func21, Try.ntmps21
  go_wp2_with fail
  refine H1.out.mono ?_
  rintro e w1 ⟨v1, rfl, hr1, hb1, _⟩
  have HB1 := hid hb1
  have HR1 := hid hr1
  clear hr1 hb1 H1
  have HM1 := hid (HM.out.under HB1.out)
  have c1 := HM1.out.c0
  go_wp2_with fail
  refine (keys_any HM1.out).mono ?_
  rintro e w2 ⟨rfl, rfl⟩
  go_wp2_with fail
  refine (sorted_any HM1.out).mono ?_
  rintro e w3 ⟨kv, rfl, hkv, hb3⟩
  obtain ⟨ka, kc, rfl⟩ := row_shape hkv
  have HKV : Hid (w3.ownsRow w1.heap.size 3 1 (.slice ka (fs.map (·.1)).length kc) (fs.map (·.1)).length ((fs.map (·.1)).map fun k => .int .i64 k)) := by
    rw [List.length_map]; exact hkv
  have HB3 : Hid (Below w.heap.size w w3) := HB1.out.trans (hb3.mono HB1.out.size)
  have HKlt : Hid (∀ k, (Value.slice ka fs.length kc).ownBlock = some k → k < w3.heap.size) := fun k hk => (World.ownsRow.lt hkv k hk).2
  have H3 : Hid (KInv w w3 w3 ka v1 (intL (fs.length : Int) ++ tabB ((abs fs).take 0))) := by
    refine ⟨by simpa [tabB] using HR1.out.under (B' := 0) hb3, HB3.out, fun g hg => ⟨rfl, fun e => ?_, ?_⟩⟩
    · have h1 := (World.ownsRow.lt HR1.out g e).2
      have h2 := (World.ownsRow.lt hkv g (by rw [hg]; rfl)).1
      omega
    · exact (World.ownsRow.lt hkv g (by rw [hg]; rfl)).2
  clear hkv hb3 HR1 HM1 c1
  go_wp2_with fail
  go_loopg [3, 22] fs.length (fun kx s3 s22 wr => ∃ (k : Nat) (sv : Value), k ≤ fs.length ∧ fs.length - k ≤ kx ∧ s22 = .int .i64 (k : Int) ∧ s3 = sv ∧ Hid (KInv w w3 wr ka sv (intL (fs.length : Int) ++ tabB ((abs fs).take k))))
  case atStart => exact ⟨0, _, by omega, by omega, rfl, rfl, H3.out⟩
  case round =>
    obtain ⟨k, sv, hkl, hkx, rfl, rfl, HI⟩ := hrel
    clear H3
    by_cases hlt : k < fs.length
    · have hlt' : (k : Int) < (fs.length : Int) := by omega
      obtain ⟨gk, kc', hkv, hkc⟩ := keyCell HKV.out k (by simpa using hlt)
      cases hkv
      obtain ⟨z1, z2, z3⟩ := HI.out.2.2 gk rfl
      have hkc' : wr.cell? ⟨gk, k, none⟩ = some (.int .i64 (fs[k]).1) := by
        rw [World.cell?_of_block (a := ⟨gk, k, none⟩) z1, hkc]; simp
      have hmem : fs[k] ∈ fs := List.getElem_mem hlt
      have habs : (abs fs)[k]'(by rw [HAL.out]; exact hlt) = (fs[k].1, fs[k].2.l) := by simp [abs]
      have HT : Hid (tabB ((abs fs).take (k + 1)) = tabB ((abs fs).take k) ++ prodB (fs[k].1, fs[k].2.l)) := by
        show _ = _; rw [tabB_take _ k (by rw [HAL.out]; exact hlt), habs]
      have hok := HM.out.ok.each (fs[k].1, fs[k].2.l) (mem_abs.2 ⟨fs[k], hmem, rfl⟩)
      have hcm := cntT_mem (abs fs) (fs[k].1, fs[k].2.l) (mem_abs.2 ⟨fs[k], hmem, rfl⟩)
      have hlb := tabB_length ((abs fs).take k)
      have hct := cntT_take (abs fs) k
      have htl : ((abs fs).take k).length ≤ fs.length := by rw [List.length_take]; omega
      have hfv : fval fs (fs[k]).1 = (fs[k]).2.sv := by
        have h1 := of_at (fs := fs) (fs[k]).1 (fval fs (fs[k]).1)
        unfold fval
        have h2 : flook fs (fs[k]).1 = some (fs[k]).2 := by
          cases hf : flook fs (fs[k]).1 with
          | none =>
            unfold flook at hf
            simp at hf
            exact absurd rfl (hf _ _ hmem)
          | some f =>
            have hm2 := flook_mem hf
            have e := HM.out.ok.rise
            unfold abs at e
            rw [List.pairwise_map] at e
            obtain ⟨j, hj, ej⟩ := List.getElem_of_mem hm2
            rcases Nat.lt_trichotomy j k with h3 | h3 | h3
            · have := List.pairwise_iff_getElem.1 e j k hj hlt h3; rw [ej] at this; simp only at this; omega
            · subst h3; rw [ej]
            · have := List.pairwise_iff_getElem.1 e k j hlt hj h3; rw [ej] at this; simp only at this; omega
        rw [h2]
      have hNL := (HM.out.owns fs[k] hmem).1
      clear hkc habs
      generalize fs[k] = F at *
      obtain ⟨pid, fv, l⟩ := F
      simp only at *
      obtain ⟨hp1, hne, hlo⟩ := hok
      obtain ⟨oa, lc, hsv, hlc, hlm, hln, hoa⟩ := hNL.shape
      obtain ⟨gl, rfl⟩ := hoa (List.length_pos_iff.2 hne)
      subst hsv
      have HNL := hid hNL
      have HLO := hid hlo
      have cq : wr.cell? ⟨q, 0, none⟩ = some (.map (some b)) := kept_cell HI.out.2.1 c0
      have hlk := (HM.out.under HI.out.2.1).look pid (i64s _ (by omega))
      rw [hfv] at hlk
      have hws := HI.out.2.1.size
      have hLl : (intL (fs.length : Int) ++ tabB ((abs fs).take k)).length ≤ 10000000 := by
        have := (intL_length (fs.length : Int)).2
        rw [List.length_append]; omega
      have H2 := hid (two48 HI.out.1 hws pid (l.length : Int) (i64s _ (by omega)) (i64s _ (by omega)) (by omega))
      have HP : Hid (intL (fs.length : Int) ++ tabB ((abs fs).take (k + 1)) = intL (fs.length : Int) ++ tabB ((abs fs).take k) ++ intsL [pid, (l.length : Int)] ++ notesB l) := by show _ = _; rw [HT.out]; simp [prodB]
      have HFV := hid hfv
      clear hfv hNL hlo hne hmem
      generalize intL (fs.length : Int) ++ tabB ((abs fs).take k) = L at *
      go_wp2_with fail
      refine H2.out.mono ?_
      rintro e w4 ⟨v4, rfl, hr4, hb4, hg4⟩
      have HI4 := hid (HI.out.step hr4 hb4 hg4)
      clear hr4 hb4 hg4 H2 hlk cq
      have cq : w4.cell? ⟨q, 0, none⟩ = some (.map (some b)) := kept_cell HI4.out.2.1 c0
      have hlk := (HM.out.under HI4.out.2.1).look pid (i64s _ (by omega))
      rw [HFV.out] at hlk
      have hLp := intsL_length [pid, (l.length : Int)]
      go_wp2_with fail
      go_loopg [3, 44] l.length (fun jx s3 s44 wq => ∃ (j : Nat) (sq : Value), j ≤ l.length ∧ l.length - j ≤ jx ∧ s44 = .int .i64 (j : Int) ∧ sq = s3 ∧ Hid (KInv w w3 wq (some ⟨gk, 0, none⟩) sq (L ++ intsL [pid, (l.length : Int)] ++ notesB (l.take j))))
      case atStart => exact ⟨0, _, by omega, by omega, rfl, rfl, by show KInv _ _ _ _ _ _; simpa [notesB] using HI4.out⟩
      case round =>
        obtain ⟨j, sq, hjl, hjx, rfl, rfl, HJ⟩ := hrel
        by_cases hj : j < l.length
        · have hj' : (j : Int) < (l.length : Int) := by omega
          have hx : l[j]? = some l[j] := List.getElem?_eq_getElem hj
          obtain ⟨r0, r1, r2, r3⟩ := (HNL.out.under HJ.out.2.1).at_ j _ hx
          have hxo := HLO.out.all l[j] (List.getElem_mem hj)
          have HTn : Hid (L ++ intsL [pid, (l.length : Int)] ++ notesB (l.take (j + 1)) = L ++ intsL [pid, (l.length : Int)] ++ notesB (l.take j) ++ intsL [l[j].ep, l[j].seq, l[j].n, l[j].off]) := by show _ = _; rw [notesB_take l j hj, ← List.append_assoc]; rfl
          have hnl := notesB_length (l.take j)
          have hnt : (l.take j).length ≤ l.length := by rw [List.length_take]; omega
          clear hx
          generalize l[j] = X at *
          obtain ⟨xe, xs, xn, xo⟩ := X
          have e1 := hxo.ep; have e2 := hxo.n; have e3 := hxo.seq; have e4 := hxo.off
          simp only at *
          have hLn : (L ++ intsL [pid, (l.length : Int)] ++ notesB (l.take j)).length ≤ 100000000 := by
            simp only [List.length_append, List.length_cons, List.length_nil] at hLp ⊢; omega
          have hwq := HJ.out.2.1.size
          have HJ2 := hid (HJ.out.alloc (.cells #[.int .i64 xe, .int .i64 xs, .int .i64 xn, .int .i64 xo] 64))
          have H4 := hid (four48 HJ2.out.1 HJ2.out.2.1.size xe xs xn xo (i64s _ (by omega)) (i64s _ (by omega)) (i64s _ (by omega)) (i64s _ (by omega)) (by omega))
          have hz : ∀ (W : World) (O : Obj), (W.alloc O).heap.size = W.heap.size + 1 := fun W O => by simp
          rw [hz] at H4
          clear hz
          generalize L ++ intsL [pid, (l.length : Int)] ++ notesB (l.take j) = L2 at *
          go_wp2_with fail
          refine H4.out.mono ?_
          rintro e w6 ⟨v6, rfl, hr6, hb6, hg6⟩
          have HI6 := hid (HJ2.out.step hr6 hb6 hg6)
          clear hr6 hb6 hg6 H4
          go_wp2_with fail
          go_roundg (l.length - (j + 1))
          case measure => omega
          case rel => exact ⟨j + 1, v6, by omega, Nat.le_refl _, by go_num, rfl, by rw [HTn.out]; exact HI6.out⟩
        · have hj' : ¬ (j : Int) < (l.length : Int) := by omega
          have ej : l.take j = l := List.take_of_length_le (by omega)
          rw [ej] at HJ
          clear ej
          go_wp2_with fail
          go_roundg (fs.length - (k + 1))
          case measure => omega
          case rel => exact ⟨k + 1, sq, by omega, Nat.le_refl _, by go_num, rfl, by rw [HP.out]; exact HJ.out⟩
    · have hlt' : ¬ (k : Int) < (fs.length : Int) := by omega
      have ek : k = fs.length := by omega
      have HE : Hid ((abs fs).take k = abs fs) := by show _ = _; rw [ek, ← HAL.out, List.take_length]
      have hLl := tabB_length (abs fs)
      have hL2 := (intL_length (fs.length : Int)).2
      rw [HAL.out] at hLl
      rw [HE.out] at HI
      have hcv := HI.out.1.conv
      obtain ⟨oa2, cap2, rfl⟩ := HI.out.1.shape
      have HS := hid (pseal2_any (intL (fs.length : Int) ++ tabB (abs fs)) wr (by rw [List.length_append]; omega))
      generalize intL (fs.length : Int) ++ tabB (abs fs) = L at *
      go_wp2_with (go_at_call 51; refine HS.out.mono ?_; rintro e w2 ⟨rfl, hb2⟩)
      go_ret
      exact ⟨by rw [HK.out]; rfl, HI.out.2.1.trans (hb2.mono HI.out.2.1.size)⟩
end Go.Proofs.Ytkdbclnnmpnfgaa

