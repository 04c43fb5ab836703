/- A broker is put off. -/
import Derived.Test.YtcffomhcmilcpaaGreatA11
import Derived.Test.YtcffomhcmilcpaaGreatM8k
import Derived.Test.YtcffomhcmilcpaaGreatM8c
namespace Go.Proofs.YtcffomhcmilcpaaGreat
open Go.RowKit Go.Maps
set_option maxRecDepth 100000
set_option linter.unusedSimpArgs false
set_option linter.unusedVariables false

set_option maxHeartbeats 6400000 in
theorem putOff_any {w : World} {L : Nat → Prop} {q b : Nat} {vt vp ve : Value} {ps : List (Value × Pt)} {I : Im} (h : ImC w L q b vt vp ve ps I) (id : Int) (h1 : 1 ≤ id ∧ id ≤ 7) (hlf : 1 ≤ (valB I.brs id).life ∧ (valB I.brs id).life ≤ 1000000000) : Calls Tryz.prog 115 #[.pointer (some ⟨q, 0, none⟩), .int .i64 id] w fun e w' => e = .returned (.tuple #[]) ∧ IOut L w w' q b vt vp ve (putOffI I id) := by
  have hdr : Below w.heap.size w w.drew := (Below.refl _ _).drew
  have hlk := (h.under hdr).look id (by unfold I64; omega)
  obtain ⟨w2, hup, hI2, hg2⟩ := (h.under hdr).put (n := id) (x := ⟨(valB I.brs id).life, false⟩) h1 hlf
  have c1 := h.c1
  obtain ⟨⟨lf, bu⟩, hv⟩ : ∃ x, valB I.brs id = x := ⟨_, rfl⟩
  have HK2 : Hid (Keeps (Own q b vt vp ve) w w2) := (Keeps.of_below hdr).trans (Keeps.of_grown (S := Own q b vt vp ve) hg2 (fun k hk => by cases hk; exact .inr (.inl rfl))) (fun x hx => .inl hx)
  have HI2 := hid hI2
  have HPO : Hid (putOffI I id = { I with brs := putB I.brs id ⟨lf, false⟩, parts := I.parts.map (stepP fun p => fenceP p id (upL (putB I.brs id ⟨lf, false⟩))) }) := by show _ = _; unfold putOffI; rw [hv]
  rw [HPO.out]
  rw [hv] at HI2 hlk hup
  simp only [Br.val] at hlk hup
  have hfa := field93a
  obtain ⟨hid1, hid2⟩ := h1
  clear hI2 hg2 hdr h hlf hv HPO
  generalize putB I.brs id ⟨lf, false⟩ = bs at *
  go_enter Tryz.func115, Tryz.ntmps115
  go_wp2_with fail
  go_cut [] from 7 to 19 (fun W => W = w2)
  case first =>
    go_region_with (fail)
    all_goals
      go_wp2_with fail
      go_meet
      case rel => rfl
  case rest =>
    subst hcut
    have HU := hid (up_any HI2.out)
    clear hup hlk c1
    go_wp2_with fail
    refine HU.out.mono ?_
    rintro e W1 ⟨uv, rfl, hil, hin, hb⟩
    have HIL : Hid (∀ wr, Keeps (Own q b vt vp ve) W1 wr → IL wr uv (upL bs)) := fun wr hk => hil.kept (X := fun k => wc.heap.size ≤ k ∧ k < W1.heap.size) (fun hn bb off n c e => ⟨hin hn bb off n c e, hil.old hn bb off n c e⟩) (fun k hk2 => hk.block k hk2.2 (fun ho => by have := HI2.out.lt ho; omega)) hk.size
    have HI1 := hid (HI2.out.under hb)
    have HKW : Hid (Keeps (Own q b vt vp ve) w W1) := HK2.out.trans (Keeps.of_below (S := fun _ => False) hb) (fun x hx => hx.elim)
    have hsz : w.heap.size ≤ W1.heap.size := HKW.out.size
    obtain ⟨ua, uc, rfl, _⟩ := hil.shape
    clear hil hin hb HI2 HK2 HU
    obtain ⟨oa, cap, hvp, hcap, hcm, hnn, hat⟩ := row_shape HI1.out.parts
    have hpl := HI1.out.plen
    simp only at hpl
    rw [← hpl] at hvp hcap hat
    subst hvp
    have c3 := HI1.out.c3
    have HJ : Hid ((({ I with brs := bs } : Im)).parts = I.parts) := rfl
    obtain ⟨J, hJ⟩ : ∃ J, J = ({ I with brs := bs } : Im) := ⟨_, rfl⟩
    rw [← hJ] at HI1 HJ
    have HJJ := hid hJ
    clear hJ hpl hcap hcm hnn
    have hf16 : I.parts.length ≤ 16 := by have := HI1.out.ok.few; rw [HJ.out] at this; exact this
    go_wp2_with fail
    go_loopg [27] I.parts.length (fun kx s wr => ∃ k : Nat, k ≤ I.parts.length ∧ I.parts.length - k ≤ kx ∧ s = .int .i64 (k : Int) ∧ Hid (LoopP W1 wr L q b vt (.slice oa I.parts.length cap) ve J (fun p => fenceP p id (upL bs)) k))
    case atStart => exact ⟨0, Nat.zero_le _, by omega, rfl, LoopP.start HI1.out⟩
    case round =>
      obtain ⟨k, hk, hkx, rfl, HK⟩ := hrel
      by_cases hlt : k < I.parts.length
      · obtain ⟨g, rfl⟩ := hat (by omega)
        have hltJ : k < J.parts.length := by rw [HJ.out]; exact hlt
        obtain ⟨x, hx, hxc⟩ := HK.out.at_ hltJ
        have HPM := hid hx
        obtain ⟨a1, c1, a2, c2, a3, c3, a4, c4, rfl, _⟩ := hx.open
        have hrp : RightP J.parts[k] ∧ J.parts[k].id = (k : Int) + 1 := HI1.out.ok.parts k _ (List.getElem?_eq_getElem hltJ)
        have HNX : Hid (∀ W v r, Below wr.heap.size wr W → r = ((fun p => fenceP p id (upL bs))) J.parts[k] → PartM W v r.1 → InP (fun j => wr.heap.size ≤ j) v r.1 → Calls Tryz.prog 117 #[.pointer (some ⟨q, 0, none⟩), v, .int .i64 r.2] W fun e w' => e = .returned (.tuple #[]) ∧ LoopP W1 w' L q b vt (.slice (some ⟨g, 0, none⟩) I.parts.length cap) ve J (fun p => fenceP p id (upL bs)) (k + 1)) := fun W v r hb hr hv hX => HK.out.next hltJ hb hr hv hX (by rw [hr]; exact fence_code _ _ _) (fun h0 => by
          rw [hr] at h0
          obtain ⟨j1, j2⟩ := fence_ok hrp.1 h0
          rw [hr]
          exact ⟨j1, by rw [← hrp.2]; exact j2⟩)
        have HKK := hid HK.out.keeps
        clear hrp HK
        generalize J.parts[k] = P at *
        have r0 := hxc 0 (by decide) _ rfl
        have r1 := hxc 1 (by decide) _ rfl
        have r2 := hxc 2 (by decide) _ rfl
        have r3 := hxc 3 (by decide) _ rfl
        have r4 := hxc 4 (by decide) _ rfl
        have r5 := hxc 5 (by decide) _ rfl
        have r6 := hxc 6 (by decide) _ rfl
        have r7 := hxc 7 (by decide) _ rfl
        have r8 := hxc 8 (by decide) _ rfl
        rw [Nat.add_zero] at r0
        have hlt' : (k : Int) < (I.parts.length : Int) := by omega
        clear hxc hx
        have HB := hid (heap_alloc_new wr (.cells #[.int .i64 P.id, .int .i64 P.leader, .int .i64 P.epoch, .int .i64 P.ver, .slice a1 P.isr.length c1, .slice a2 P.reps.length c2, .slice a3 P.add.length c3, .slice a4 P.rem.length c4, .int .i64 P.min] 54))
        have HBW : Hid (Below wr.heap.size wr (wr.alloc (.cells #[.int .i64 P.id, .int .i64 P.leader, .int .i64 P.epoch, .int .i64 P.ver, .slice a1 P.isr.length c1, .slice a2 P.reps.length c2, .slice a3 P.add.length c3, .slice a4 P.rem.length c4, .int .i64 P.min] 54))) := (Below.refl _ _).alloc (Nat.le_refl _) _
        have HDE := hid ((fence_any (HPM.out.under HBW.out) id (by unfold I64; omega) ((HIL.out wr HKK.out).under HBW.out)))
        go_wp2_with fail
        refine HDE.out.mono ?_
        rintro e W2 ⟨v2, rfl, hv2, hX2, hb2⟩
        have HC := hid (HNX.out W2 v2 _ (HBW.out.trans (hb2.mono HBW.out.size)) rfl hv2 (hX2.mono (fun j hj => Nat.le_trans HBW.out.size hj)))
        obtain ⟨z1, d1, z2, d2, z3, d3, z4, d4, rfl, _⟩ := hv2.open
        clear hv2 hX2 hb2 HDE HNX HPM r0 r1 r2 r3 r4 r5 r6 r7 r8 HB HBW
        go_wp2_with fail
        refine HC.out.mono ?_
        rintro e W3 ⟨rfl, hL3⟩
        have HL3 := hid hL3
        clear hL3 HC
        go_wp2_with fail
        go_roundg (I.parts.length - (k + 1))
        case measure => omega
        case rel => exact ⟨k + 1, by omega, Nat.le_refl _, by go_num, HL3.out⟩
      · have hlt' : ¬ (k : Int) < (I.parts.length : Int) := by omega
        have HKE := HK
        clear HK
        go_wp2_with fail
        go_end0
        obtain ⟨⟨L', ps', i1, i2⟩, i3⟩ := HKE.out
        rw [stepK_all _ _ _ (by rw [HJ.out]; omega)] at i1
        refine ⟨rfl, L', ps', ?_, fun j hj => (i2 j hj).elim .inl (fun h => .inr (Nat.le_trans hsz h)), HKW.out.trans i3 (fun x hx => .inl hx)⟩
        rw [HJJ.out] at i1
        exact i1
end Go.Proofs.YtcffomhcmilcpaaGreat
