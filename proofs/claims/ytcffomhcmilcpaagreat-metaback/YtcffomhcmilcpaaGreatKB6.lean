/- Brokers are read back. -/
import Derived.Test.YtcffomhcmilcpaaGreatKB1
import Derived.Test.YtcffomhcmilcpaaGreatK7
namespace Go.Proofs.YtcffomhcmilcpaaGreat
open Go.RowKit Go.Maps
set_option maxRecDepth 100000
set_option linter.unusedSimpArgs false
set_option linter.unusedVariables false

theorem insB_last (x : Int × Br) : ∀ bs : BM, (∀ p ∈ bs, p.1 < x.1) → insB x bs = bs ++ [x]
  | [], _ => rfl
  | y :: r, h => by
    have h1 := h y (by simp)
    unfold insB
    rw [if_neg (by omega), insB_last x r (fun p hp => h p (by simp [hp]))]
    rfl
theorem putB_last {bs : BM} {n : Int} {b : Br} (h : ∀ p ∈ bs, p.1 < n) : putB bs n b = bs ++ [(n, b)] := by
  unfold putB
  have e : delB bs n = bs := by
    unfold delB
    refine List.filter_eq_self.2 fun p hp => ?_
    have := h p hp
    simp
    omega
  rw [e, insB_last (n, b) bs h]
theorem put_take {bs : BM} (hk : bs.Pairwise (fun p q => p.1 < q.1)) {k : Nat} (h : k < bs.length) : putB (bs.take k) bs[k].1 bs[k].2 = bs.take (k + 1) := by
  rw [putB_last (fun p hp => ?_), List.take_succ_eq_append_getElem h]
  obtain ⟨i, hi, e⟩ := List.mem_take_iff_getElem.1 hp
  have := List.pairwise_iff_getElem.1 hk i k (by omega) h (by omega)
  rw [← e]
  exact this
/-- An image with other brokers. -/
@[reducible] def wBr (J : Im) (bs : BM) : Im := { J with brs := bs }
theorem flat_drop {α : Type} (f : α → List UInt8) (l : List α) (k : Nat) (h : k < l.length) : ((l.drop k).map f).flatten = f l[k] ++ ((l.drop (k + 1)).map f).flatten := by
  rw [List.drop_eq_getElem_cons h, List.map_cons, List.flatten_cons]
theorem bit_one (u : Bool) : bitI u = 0 ∧ u = false ∨ bitI u = 1 ∧ u = true := by cases u <;> simp [bitI]
set_option maxHeartbeats 6400000 in
theorem readBrs_any {w U : World} {Z : Nat → Prop} {q x : Nat} {J : Im} {bs : BM} {l : List UInt8} (h : LS w U Z q x (wBr J []) (W.intL (bs.length : Int) ++ (brB bs ++ l))) (hk : bs.Pairwise (fun p q => p.1 < q.1)) (hb : ∀ p ∈ bs, (1 ≤ p.1 ∧ p.1 ≤ 7) ∧ 1 ≤ p.2.life ∧ p.2.life ≤ 1000000000) :
    Calls Tryz.prog 44 #[.pointer (some ⟨q, 0, none⟩), .pointer (some ⟨x, 0, none⟩)] U fun e w' => e = .returned (.bool true) ∧ LS w w' Z q x (wBr J bs) l := by
  have hl7 := keys_few hk (fun p hp => (hb p hp).1)
  have HC := hid (h.count (n := (bs.length : Int)) (most := 7) ⟨by omega, by omega⟩ (by omega))
  have HK := hid hk
  have HB := hid hb
  clear h hk hb
  go_enter Tryz.func44, Tryz.ntmps44
  go_wp2_with fail
  refine HC.out.mono ?_
  rintro e U1 ⟨rfl, ho⟩
  have H0 : Hid (LS w U1 Z q x (wBr J (bs.take 0)) (((bs.drop 0).map brOne).flatten ++ l)) := ho.1
  clear ho HC
  go_wp2_with fail
  go_loopg [5, 11] bs.length (fun kx s5 s11 wr => ∃ (k : Nat) (lst : Int), k ≤ bs.length ∧ bs.length - k ≤ kx ∧ s5 = .int .i64 lst ∧ s11 = .int .i64 (k : Int) ∧ Hid (∀ hk : k < bs.length, lst < bs[k].1) ∧ Hid (LS w wr Z q x (wBr J (bs.take k)) (((bs.drop k).map brOne).flatten ++ l)))
  case atStart => exact ⟨0, 0, Nat.zero_le _, by omega, rfl, rfl, fun hk => by have := (HB.out bs[0] (by simp)).1; omega, H0.out⟩
  case round =>
    obtain ⟨k, lst, hk, hkx, rfl, rfl, HLT, HR⟩ := hrel
    clear H0
    by_cases hlt : k < bs.length
    · have hlt' : (k : Int) < (bs.length : Int) := by omega
      have hls := HLT.out hlt
      have hbr := HB.out bs[k] (by simp)
      have HR0 : Hid (LS w wr Z q x (wBr J (bs.take k)) (W.intL bs[k].1 ++ (W.intL bs[k].2.life ++ (W.intL (bitI bs[k].2.up) ++ (((bs.drop (k + 1)).map brOne).flatten ++ l))))) := by
        have := HR.out
        rw [flat_drop brOne bs k hlt] at this
        have e : brOne bs[k] ++ ((bs.drop (k + 1)).map brOne).flatten ++ l = W.intL bs[k].1 ++ (W.intL bs[k].2.life ++ (W.intL (bitI bs[k].2.up) ++ (((bs.drop (k + 1)).map brOne).flatten ++ l))) := by
          unfold brOne
          simp [W.intsL, List.append_assoc]
        show LS _ _ _ _ _ _ _
        rw [← e]
        exact this
      have HPT := hid (put_take HK.out hlt)
      have HNX : Hid (∀ hk : k + 1 < bs.length, bs[k].1 < bs[k + 1].1) := fun h2 => List.pairwise_iff_getElem.1 HK.out k (k + 1) hlt h2 (by omega)
      generalize bs[k] = z at *
      obtain ⟨y, lf, u⟩ := z
      simp only at hls hbr HR0 HPT HNX
      obtain ⟨⟨y1, y2⟩, l1, l2⟩ := hbr
      have hyI : I64 y := by unfold I64; omega
      have hlI : I64 lf := by unfold I64; omega
      have huI : I64 (bitI u) := by unfold bitI I64; split <;> omega
      clear HR HLT
      go_wp2_with fail
      refine (HR0.out.int hyI).mono ?_
      rintro e V1 ⟨rfl, o1⟩
      have HR1 := hid o1.1
      clear o1 HR0
      go_wp2_with fail
      refine (HR1.out.int hlI).mono ?_
      rintro e V2 ⟨rfl, o2⟩
      have HR2 := hid o2.1
      clear o2 HR1
      go_wp2_with fail
      refine (HR2.out.int huI).mono ?_
      rintro e V3 ⟨rfl, o3⟩
      have HR3 := hid o3.1
      clear o3 HR2
      have hn : ¬ (y ≤ lst) := by omega
      have u1 : upB y 7 = true := upB_iff.2 ⟨y1, y2⟩
      have u2 : upB lf 1000000000 = true := upB_iff.2 ⟨l1, l2⟩
      have HC1 := hid (broker_any y V3 hyI)
      have HC2 := hid (upTo_any lf 1000000000 V3 hlI (by unfold I64; omega))
      rw [u1] at HC1
      rw [u2] at HC2
      clear u1 u2
      obtain ⟨⟨⟨L, b, vt, vp, ve, ps, h1, hz1, hz2, hz3⟩, h2⟩, h3, h4, h5⟩ := HR3.out
      have c1 := h1.c1
      obtain ⟨w', hrun, hI', hg⟩ := h1.put (n := y) (x := ⟨lf, u⟩) ⟨y1, y2⟩ ⟨l1, l2⟩
      have hbx : b ≠ x := (h2 b (hz1 b (.inr (.inl rfl)))).2
      have hbw : w.heap.size ≤ b := (h2 b (hz1 b (.inr (.inl rfl)))).1
      have HN : Hid (LS w w' Z q x (wBr J (bs.take (k + 1))) (((bs.drop (k + 1)).map brOne).flatten ++ l)) := by
        refine ⟨⟨⟨L, b, vt, vp, ve, ps, ?_, hz1, hz2, fun j hj => Nat.lt_of_lt_of_le (hz3 j hj) hg.size⟩, h2⟩, h3.kept (hg.block x h3.lt (fun e => hbx (by cases e; rfl))), h4, h5.grown hg h5.size (fun j hj => by cases hj; exact hbw)⟩
        have := hI'
        simp only [HPT.out] at this
        exact this
      clear hI' hg h1 h2 h3 h4 h5 hz1 hz2 hz3 HPT HR3 hbx hbw
      simp only [Br.val] at hrun
      rcases bit_one u with ⟨e1, e2⟩ | ⟨e1, e2⟩
      · rw [e1]
        subst e2
        go_wp2_with fail
        refine HC1.out.mono ?_
        rintro e w1 ⟨rfl, rfl⟩
        go_wp2_with fail
        refine HC2.out.mono ?_
        rintro e w1 ⟨rfl, rfl⟩
        go_wp2_with fail
        go_roundg (bs.length - (k + 1))
        case measure => omega
        case rel => exact ⟨k + 1, y, by omega, Nat.le_refl _, rfl, by go_num, HNX.out, HN.out⟩
      · rw [e1]
        subst e2
        go_wp2_with fail
        refine HC1.out.mono ?_
        rintro e w1 ⟨rfl, rfl⟩
        go_wp2_with fail
        refine HC2.out.mono ?_
        rintro e w1 ⟨rfl, rfl⟩
        go_wp2_with fail
        go_roundg (bs.length - (k + 1))
        case measure => omega
        case rel => exact ⟨k + 1, y, by omega, Nat.le_refl _, rfl, by go_num, HNX.out, HN.out⟩
    · have hlt' : ¬ (k : Int) < (bs.length : Int) := by omega
      obtain rfl : k = bs.length := by omega
      have HE : Hid (LS w wr Z q x (wBr J bs) l) := by
        have := HR.out
        rw [List.take_length, List.drop_length] at this
        exact this
      clear HR
      go_wp2_with fail
      go_ret
      exact ⟨rfl, HE.out⟩
end Go.Proofs.YtcffomhcmilcpaaGreat

