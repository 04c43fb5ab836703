/- What the document's disk does: Append. -/
import Derived.Test.YtpdghpmfacaglaaRn3
import Derived.Deep.CutRange
import Derived.Deep.DeepCutAuto
namespace Go.Proofs.Ytpdghpmfacaglaa
open Go.RowKit Go.Maps Go.Sort
set_option maxRecDepth 100000
set_option linter.unusedSimpArgs false
set_option linter.unusedVariables false

theorem strOf_app (l m : List UInt8) : strOf l ++ strOf m = strOf (l ++ m) := by
  apply ByteArray.ext
  simp [strOf]
theorem strOf_of (b : ByteArray) : strOf b.data.toList = b := by simp [strOf]
theorem strOf_sz (l : List UInt8) : (strOf l).size = l.length := by simp [strOf, ByteArray.size]
noncomputable def body28 : Code := Try.f28.body.getD .skip
/-- What follows the first n parts. -/
def tailAt : Nat → Code → Code
  | 0, c => c
  | n + 1, .seq _ b => tailAt n b
  | _ + 1, c => c

set_option maxHeartbeats 3200000 in
theorem rapp_tail {W : World} {T1 : Nat → Prop} {r size : Nat} {v : Value} {l1 : List AF} {n b : ByteArray} {y3 y4 y5 y6 y7 y8 y9 y10 y11 y12 y13 y14 y15 y16 y17 y18 y19 y20 y21 y22 y23 y24 y25 y26 y27 y28 y29 y30 y31 y32 y33 y34 y35 y36 y37 y38 y39 y40 y41 y42 y43 y44 y45 y46 y47 y48 y49 y50 y51 : Value} {i : Nat} {x : AF} {Post : Ending → World → Prop} (h : RefM W T1 r size v l1) (hl : l1.length ≤ 1000) (hi : idx l1 n.data.toList = some i) (hx : l1[i]? = some x) (htot : totalA l1 ≤ size) (hbig : size ≤ 16777216) (hb : b.size ≤ maxLen)
    (HP0 : ∀ W', RAfter T1 W W' r size (l1.set i ⟨x.name, x.bs ++ b.data.toList.take (min b.size (size - totalA l1)), x.safe⟩) → Post (.returned (.int .i64 ((if b.size ≤ size - totalA l1 then 0 else 7 : Nat) : Int))) W') :
    Code.wp Try.prog (tailAt 4 body28) (bodyPost Try.prog Try.f28 Post) ⟨#[.pointer (some ⟨r, 0, none⟩), .string n, .string b, y3, y4, y5, y6, y7, y8, y9, y10, y11, y12, y13, y14, y15, y16, y17, y18, y19, y20, y21, y22, y23, y24, y25, y26, y27, y28, y29, y30, y31, y32, y33, y34, y35, y36, y37, y38, y39, y40, y41, y42, y43, y44, y45, y46, y47, y48, y49, y50, y51], []⟩ W := by
  unfold maxLen at hb
  have HP := hid HP0
  have HA : Hid (∀ k, Calls Try.prog 49 #[.pointer (some ⟨r, 0, none⟩), .string n] (W.drewN k) fun e w' => e = .returned (.int .i64 (i : Int)) ∧ w' = W.drewN k) := fun k => by
    have := at_any (h.under (below_drewN (Below.refl _ _) k)) hl n
    rw [idxI_yes hi] at this
    exact this
  have HFr : Hid (∀ k, Calls Try.prog 41 #[.pointer (some ⟨r, 0, none⟩)] (W.drewN k) fun e w' => e = .returned (.int .i64 ((size - totalA l1 : Nat) : Int)) ∧ w' = W.drewN k) := fun k => rfree_any (h.under (below_drewN (Below.refl _ _) k)) hl htot hbig
  have hil := (List.getElem?_eq_some_iff.1 hx).1
  obtain ⟨g, cap, rfl, hcap, hcm⟩ := h.place hx
  have c1 := h.c1
  have p1 := (h.at_ i x hx).2.1
  have f1 := h.free (i * 3 + 1)
  have hil' : (i : Int) < (l1.length : Int) := by omega
  have hxb : x.bs.length ≤ size := Nat.le_trans (total_mem (mem_at hx)) htot
  obtain ⟨k, hk⟩ : ∃ k, k = min b.size (size - totalA l1) := ⟨_, rfl⟩
  have hkb : k ≤ b.size := by omega
  have hkb' : (k : Int) ≤ (b.size : Int) := by omega
  have HK : Hid (min ((size - totalA l1 : Nat) : Int) (b.size : Int) = (k : Int)) := by show _ = _; omega
  have he : b.extract 0 k = strOf (b.data.toList.take k) := by
    have := extract_take2 b.data.toList k
    rw [strOf_of] at this
    exact this
  have ha := strOf_app x.bs (b.data.toList.take k)
  have hsum : ¬ 9223372036854775807 < (strOf x.bs).size + (strOf (b.data.toList.take k)).size := by
    rw [strOf_sz, strOf_sz, List.length_take]
    have : b.data.toList.length = b.size := by show b.data.toList.length = b.data.size; simp
    omega
  have HR : Hid (∀ m, Post (.returned (.int .i64 ((if b.size ≤ size - totalA l1 then 0 else 7 : Nat) : Int))) ((W.setCell ⟨g, i * 3 + 1, none⟩ (.string (strOf (x.bs ++ b.data.toList.take k)))).drewN m)) := fun m => by
    refine HP.out _ ?_
    rw [← hk]
    have h1 := (h.set1 hx (x.bs ++ b.data.toList.take k)).under (below_drewN (Below.refl _ _) m)
    have h2 : Keeps T1 W ((W.setCell ⟨g, i * 3 + 1, none⟩ (.string (strOf (x.bs ++ b.data.toList.take k)))).drewN m) := (keeps_set (h.rowT g rfl)).trans (S := T1) (T := T1) (Keeps.of_below (below_drewN (Below.refl _ _) m)) (fun x hx => .inl hx)
    exact RAfter.in h1 h2
  clear h HP HP0 hi hx
  generalize strOf (x.bs ++ b.data.toList.take k) = S2 at *
  generalize strOf (b.data.toList.take k) = S1 at *
  generalize strOf x.bs = S0 at *
  by_cases hfit : b.size ≤ size - totalA l1
  · have HR2 : Hid (∀ m, Post (.returned (.int .i64 0)) ((W.setCell ⟨g, i * 3 + 1, none⟩ (.string S2)).drewN m)) := fun m => by have := HR.out m; rw [if_pos hfit] at this; exact this
    have hlt : ¬ (k : Int) < (b.size : Int) := by omega
    clear HR hk
    generalize size - totalA l1 = fr at *
    conv => arg 2; whnf
    go_wp2_with fail
    go_quiet ((go_at_call 49; exact (HA.out _).mono fun e w' h => ⟨h.1, _, h.2⟩))
    go_wp2_with fail
    refine (HFr.out nq).mono ?_
    rintro e w4 ⟨rfl, h⟩
    have h' := h.symm
    subst h'
    clear h
    go_wp2_with fail
    rw [HK.out]
    go_region
    all_goals
      go_wp2_with fail
      exact HR2.out _
  · have HR2 : Hid (∀ m, Post (.returned (.int .i64 7)) ((W.setCell ⟨g, i * 3 + 1, none⟩ (.string S2)).drewN m)) := fun m => by have := HR.out m; rw [if_neg hfit] at this; exact this
    have hlt : (k : Int) < (b.size : Int) := by omega
    clear HR hk
    generalize size - totalA l1 = fr at *
    conv => arg 2; whnf
    go_wp2_with fail
    go_quiet ((go_at_call 49; exact (HA.out _).mono fun e w' h => ⟨h.1, _, h.2⟩))
    go_wp2_with fail
    refine (HFr.out nq).mono ?_
    rintro e w4 ⟨rfl, h⟩
    have h' := h.symm
    subst h'
    clear h
    go_wp2_with fail
    rw [HK.out]
    go_region
    all_goals
      go_wp2_with fail
      exact HR2.out _
set_option maxHeartbeats 3200000 in
theorem rappend_any {w : World} {T : Nat → Prop} {r size : Nat} {v : Value} {l : List AF} (h : RefM w T r size v l) (hk : LOk size l) (n b : ByteArray) (hn : n.size ≤ maxLen) (hb : b.size ≤ maxLen) :
    Calls Try.prog 28 #[.pointer (some ⟨r, 0, none⟩), .string n, .string b] w fun e w' => e = .returned (.int .i64 (appE size l n b : Int)) ∧ RAfter T w w' r size (appL size l n b) := by
  have HM := hid (rmade_any h hk.len n hn)
  have HA := hid (at_any h (by have := hk.len; omega) n)
  unfold appE appL
  by_cases hE : admE l n = 0
  case neg =>
    rw [if_neg hE, if_neg hE]
    have HR := hid (RAfter.same h (Below.refl _ _))
    generalize admE l n = E at *
    have hne : (((E : Nat) : Int) != 0) = true := by simp; omega
    clear h hE HA
    go_enter Try.func28, Try.ntmps28
    go_wp2_with fail
    refine HM.out.mono ?_
    rintro e w1 ⟨rfl, h⟩
    have h' := h.symm
    subst h'
    go_wp2_with fail
    go_ret
    exact ⟨rfl, HR.out⟩
  rw [if_pos hE, if_pos hE]
  rw [hE] at HM
  have hl := hk.len
  cases hi : idx l n.data.toList with
  | some i =>
    rw [idxI_yes hi] at HA
    obtain ⟨x, hx, hxn, hlk, hil⟩ := idx_yes hi
    obtain ⟨hb1, hb2⟩ := look_bytes hlk
    rw [hb1, hb2, ← hxn, aput_at (y := ⟨x.name, x.bs ++ b.data.toList.take (min b.size (size - totalA l)), x.safe⟩) hk.srt hx rfl]
    have HT := hid (fun (K : Act → World → Prop) (a : Act) (f : Code.wp Try.prog (tailAt 4 body28) (bodyPost Try.prog Try.f28 (fun e w' => e = .returned (.int .i64 ((if b.size ≤ size - totalA l then 0 else 7 : Nat) : Int)) ∧ RAfter T w w' r size (l.set i ⟨x.name, x.bs ++ b.data.toList.take (min b.size (size - totalA l)), x.safe⟩))) a w) => f)
    clear HT
    have hi0 : ¬ (i : Int) < 0 := by omega
    have HI := hid (And.intro hi hx)
    have HH := hid h
    have HK := hid hk
    clear h hlk hi hx hxn hE hb1 hb2 hk
    go_enter Try.func28, Try.ntmps28
    go_wp2_with fail
    refine HM.out.mono ?_
    rintro e w1 ⟨rfl, h⟩
    have h' := h.symm
    subst h'
    clear h
    go_wp2_with fail
    refine HA.out.mono ?_
    rintro e w2 ⟨rfl, h⟩
    have h' := h.symm
    subst h'
    clear h
    go_upto_if 19 with fail
    go_cut [] from 10 (fun wx => wx = w)
    case first =>
      go_wp2_with fail
      go_meet
      rfl
    case rest =>
      rename_i Q1 K1 hK1
      subst hcut
      refine hK1 _ _ ?_
      exact rapp_tail HH.out (by omega) HI.out.1 HI.out.2 HK.out.total HK.out.big hb (fun W' hr => ⟨rfl, hr⟩)
  | none =>
    rw [idxI_no hi] at HA
    obtain ⟨hno, hnm⟩ := idx_no hi
    obtain ⟨hb1, hb2⟩ := look_none hno
    have hp := pos_le n.data.toList l
    rw [hb1, hb2, aput_no (y := ⟨n.data.toList, [] ++ b.data.toList.take (min b.size (size - totalA l)), 0⟩) hk.srt hnm]
    have HPut := hid (rput_any h (by omega) ⟨n.data.toList, [], 0⟩)
    simp only at HPut
    rw [strOf_of] at HPut
    have HI : Hid (idx (l.take (pos n.data.toList l) ++ ⟨n.data.toList, [], 0⟩ :: l.drop (pos n.data.toList l)) n.data.toList = some (pos n.data.toList l) ∧ (l.take (pos n.data.toList l) ++ ⟨n.data.toList, [], 0⟩ :: l.drop (pos n.data.toList l))[pos n.data.toList l]? = some ⟨n.data.toList, [], 0⟩) := ⟨idx_put (x := ⟨n.data.toList, [], 0⟩) hp hnm, put_at hp⟩
    have HTot : Hid (totalA (l.take (pos n.data.toList l) ++ ⟨n.data.toList, [], 0⟩ :: l.drop (pos n.data.toList l)) = totalA l) := put_total
    have HLen : Hid ((l.take (pos n.data.toList l) ++ ⟨n.data.toList, [], 0⟩ :: l.drop (pos n.data.toList l)).length ≤ 1000) := by show _ ≤ _; rw [put_len hp]; omega
    have HSet := hid (put_set (x := ⟨n.data.toList, [], 0⟩) (y := ⟨n.data.toList, [] ++ b.data.toList.take (min b.size (size - totalA l)), 0⟩) hp)
    have HK := hid hk
    have HSame : Hid (∀ W', RAfter T w W' r size (l.take (pos n.data.toList l) ++ ⟨n.data.toList, [] ++ b.data.toList.take (min b.size (size - totalA l)), 0⟩ :: l.drop (pos n.data.toList l)) → RAfter T w W' r size (l.take (pos n.data.toList l) ++ ⟨n.data.toList, [] ++ b.data.toList.take (min b.size (size - totalA l)), 0⟩ :: l.drop (pos n.data.toList l))) := fun _ h => h
    clear h hno hnm hi hE hb1 hb2 hk HSame
    generalize l.take (pos n.data.toList l) ++ ⟨n.data.toList, [], 0⟩ :: l.drop (pos n.data.toList l) = l1 at *
    generalize l.take (pos n.data.toList l) ++ ⟨n.data.toList, [] ++ b.data.toList.take (min b.size (size - totalA l)), 0⟩ :: l.drop (pos n.data.toList l) = l2 at *
    generalize pos n.data.toList l = p at *
    go_enter Try.func28, Try.ntmps28
    go_wp2_with fail
    refine HM.out.mono ?_
    rintro e w1 ⟨rfl, h⟩
    have h' := h.symm
    subst h'
    clear h
    go_wp2_with fail
    refine HA.out.mono ?_
    rintro e w2 ⟨rfl, h⟩
    have h' := h.symm
    subst h'
    clear h
    go_upto_if 19 with fail
    go_cut [] from 10 (fun wx => Hid (RAfter T w wx r size l1))
    case first =>
      go_wp2_with fail
      refine HPut.out.mono ?_
      rintro e w3 ⟨rfl, hr⟩
      have HR := hid hr
      clear hr
      go_wp2_with fail
      go_meet
      exact HR
    case rest =>
      rename_i Q1 K1 hK1
      obtain ⟨T1, v1, hr1, a1, a2, a3⟩ := hcut.out
      refine hK1 _ _ ?_
      refine rapp_tail hr1 HLen.out HI.out.1 HI.out.2 (by rw [HTot.out]; exact HK.out.total) HK.out.big hb (fun W' hr => ⟨by rw [HTot.out], ?_⟩)
      rw [HTot.out, HSet.out] at hr
      exact hr.trans T1 a1 a2 a3
end Go.Proofs.Ytpdghpmfacaglaa
