/- Topics are read back. -/
import Derived.Test.YtcffomhcmilcpaaGreatKB7
import Derived.Test.YtcffomhcmilcpaaGreatKB5
namespace Go.Proofs.YtcffomhcmilcpaaGreat
open Go.RowKit Go.Maps
set_option maxRecDepth 100000
set_option linter.unusedSimpArgs false
set_option linter.unusedVariables false

@[reducible] def wTp (J : Im) (ts : List Tp) : Im := { J with tops := ts }
theorem sumT_take : ∀ (ts : List Tp) (k : Nat), (∀ t ∈ ts, 1 ≤ t.count) → sumT (ts.take k) ≤ sumT ts
  | [], k, _ => by simp [sumT]
  | t :: r, 0, h => by
    have h1 := sumT_len (t :: r) h
    simp only [List.take_zero, sumT] at *
    omega
  | t :: r, k + 1, h => by
    have := sumT_take r k (fun x hx => h x (by simp [hx]))
    simp only [List.take_succ_cons, sumT]
    omega
theorem tp_ok {J : Im} {ts : List Tp} (h : ImOk (wTp J ts)) (k : Nat) : ImOk (wTp J (ts.take k)) :=
  ⟨h.keys, h.brs, h.parts, h.few, by have := sumT_take ts k (fun t ht => (h.nums t ht).2.2.1); have := h.tops; simp only at *; omega, fun t ht => h.name t (List.mem_of_mem_take ht), fun t ht => h.nums t (List.mem_of_mem_take ht), h.eps, h.epv, h.app⟩
/-- With any blocks. -/
def LE (w U : World) (q x : Nat) (I : Im) (l : List UInt8) : Prop := ∃ Z, LS w U Z q x I l
/-- What topics must be to be read. -/
structure TpOk (ts : List Tp) : Prop where
  name : ∀ t ∈ ts, nameB t.name = true
  apart : ∀ (k : Nat) (h : k < ts.length), hasT (ts.take k) ts[k].name = false
  chain : ∀ (k : Nat) (h : k < ts.length), ts[k].first = nxT (ts.take k)
set_option maxHeartbeats 12800000 in
theorem readTops_any {w U : World} {q x : Nat} {J : Im} {ts : List Tp} {l : List UInt8} (h : LE w U q x (wTp J []) (W.intL (ts.length : Int) ++ (tpB ts ++ l))) (ht : TpOk ts) (hok : ImOk (wTp J ts)) :
    Calls Tryz.prog 45 #[.pointer (some ⟨q, 0, none⟩), .pointer (some ⟨x, 0, none⟩)] U fun e w' => e = .returned (.bool true) ∧ LE w w' q x (wTp J ts) l := by
  obtain ⟨Z, h⟩ := h
  have hl16 : ts.length ≤ 16 := hok.topsFew
  have HC := hid (h.count (n := (ts.length : Int)) (most := 16) ⟨by omega, by omega⟩ (by omega))
  have HT := hid ht
  have HOK := hid hok
  clear h ht hok
  go_enter Tryz.func45, Tryz.ntmps45
  go_wp2_with fail
  refine HC.out.mono ?_
  rintro e U1 ⟨rfl, ho⟩
  have H0 : Hid (LE w U1 q x (wTp J (ts.take 0)) (((ts.drop 0).map tpOne).flatten ++ l)) := ⟨Z, ho.1⟩
  clear ho HC
  go_wp2_with fail
  go_loopg [8] ts.length (fun kx s8 wr => ∃ (k : Nat), k ≤ ts.length ∧ ts.length - k ≤ kx ∧ s8 = .int .i64 (k : Int) ∧ Hid (LE w wr q x (wTp J (ts.take k)) (((ts.drop k).map tpOne).flatten ++ l)))
  case atStart => exact ⟨0, Nat.zero_le _, by omega, rfl, H0.out⟩
  case round =>
    obtain ⟨k, hk, hkx, rfl, HR⟩ := hrel
    clear H0
    by_cases hlt : k < ts.length
    · have hlt' : (k : Int) < (ts.length : Int) := by omega
      have HNM := hid (HT.out.name ts[k] (List.getElem_mem hlt))
      have HAP := hid (HT.out.apart k hlt)
      have HCH := hid (HT.out.chain k hlt)
      have hnu := HOK.out.nums ts[k] (List.getElem_mem hlt)
      have hsz := HOK.out.name ts[k] (List.getElem_mem hlt)
      have HNO := hid (tp_ok HOK.out (k + 1))
      have HTK : Hid (ts.take (k + 1) = ts.take k ++ [ts[k]]) := by show _ = _; exact List.take_succ_eq_append_getElem hlt
      obtain ⟨Z, hZ⟩ := HR.out
      have HR0 : Hid (LS w wr Z q x (wTp J (ts.take k)) (W.textL ts[k].name.data.toList ++ (W.intL ts[k].first ++ (W.intL ts[k].count ++ (((ts.drop (k + 1)).map tpOne).flatten ++ l))))) := by
        have := hZ
        rw [flat_drop tpOne ts k hlt] at this
        have e : tpOne ts[k] ++ ((ts.drop (k + 1)).map tpOne).flatten ++ l = W.textL ts[k].name.data.toList ++ (W.intL ts[k].first ++ (W.intL ts[k].count ++ (((ts.drop (k + 1)).map tpOne).flatten ++ l))) := by
          unfold tpOne
          simp [W.intsL, List.append_assoc]
        show LS _ _ _ _ _ _ _
        rw [← e]
        exact this
      clear HR hZ
      generalize ts[k] = T at *
      have hfI : I64 T.first := by unfold I64; omega
      have hcI : I64 T.count := by unfold I64; omega
      go_wp2_with fail
      refine (HR0.out.text (most := 32) (by omega) (by omega)).mono ?_
      rintro e V1 ⟨rfl, o1⟩
      have HR1 := hid o1.1
      clear o1 HR0
      go_wp2_with fail
      refine (HR1.out.int hfI).mono ?_
      rintro e V2 ⟨rfl, o2⟩
      have HR2 := hid o2.1
      clear o2 HR1
      go_wp2_with fail
      refine (HR2.out.int hcI).mono ?_
      rintro e V3 ⟨rfl, o3⟩
      have HR3 := hid o3.1
      clear o3 HR2
      go_upto_region 4 with fail
      have HR4 : Hid (LS w (V3.alloc (.cells #[.string T.name, .int .i64 T.first, .int .i64 T.count] 96)) Z q x (wTp J (ts.take k)) (((ts.drop (k + 1)).map tpOne).flatten ++ l)) := HR3.out.under ((Below.refl _ _).alloc (Nat.le_refl _) _)
      have HBX := hid (heap_alloc_new V3 (.cells #[.string T.name, .int .i64 T.first, .int .i64 T.count] 96))
      have HZL := hid HR3.out.1.1.lt
      generalize hV : V3.alloc (.cells #[.string T.name, .int .i64 T.first, .int .i64 T.count] 96) = V at *
      generalize V3.heap.size = y at *
      clear hV HR3
      have b0 := cell_blk HBX.out 0 _ rfl
      have b1 := cell_blk HBX.out 1 _ rfl
      have b2 := cell_blk HBX.out 2 _ rfl
      obtain ⟨⟨⟨L, b, vt, vp, ve, ps, h1, hz1, hz2, hz3⟩, h2⟩, h3, h4, h5⟩ := id HR4.out
      have HIC := hid h1
      have HC1 : Hid (∀ U, Calls Tryz.prog 93 #[.string T.name] U fun e w' => e = .returned (.bool true) ∧ U = w') := fun U => by
        have := isName_any T.name U (by unfold maxLen; omega)
        rw [HNM.out] at this
        exact this
      have HC2 : Hid (∀ U, Below V.heap.size V U → Calls Tryz.prog 65 #[.pointer (some ⟨q, 0, none⟩), .string T.name] U fun e w' => e = .returned (.int .i64 (-1)) ∧ Below U.heap.size U w') := fun U hU => by
        refine (place_any (HIC.out.under hU) T.name).mono ?_
        rintro e w' ⟨⟨i, rfl, _, hi, _⟩, hb⟩
        rw [hi HAP.out]
        exact ⟨rfl, hb⟩
      have HC3 : Hid (∀ U, Below V.heap.size V U → Calls Tryz.prog 94 #[.pointer (some ⟨q, 0, none⟩)] U fun e w' => e = .returned (.int .i64 T.first) ∧ Below U.heap.size U w') := fun U hU => by
        rw [HCH.out]
        exact nextPart_any (HIC.out.under hU)
      have HC4 : Hid (∀ U, Calls Tryz.prog 67 #[.int .i64 T.count, .int .i64 16] U fun e w' => e = .returned (.bool true) ∧ U = w') := fun U => by
        have := upTo_any T.count 16 U hcI (by unfold I64; omega)
        rw [upB_iff.2 ⟨hnu.2.2.1, hnu.2.2.2⟩] at this
        exact this
      clear h1 hz1 hz2 hz3 h2 h3 h4 h5 HNM HAP HCH HIC
      go_cut [40] from 17 to 40 (fun s40 N => s40 = .bool false ∧ Hid (Below V.heap.size V N))
      case first =>
        have HB0 := hid (Below.refl V.heap.size V)
        go_region_held3 (fun w' => w'.cell? ⟨y, 0, none⟩ = some (.string T.name) ∧ w'.cell? ⟨y, 1, none⟩ = some (.int .i64 T.first) ∧ w'.cell? ⟨y, 2, none⟩ = some (.int .i64 T.count)) (go_keep)
          (first
          | (go_at_call 93; refine (HC1.out _).mono ?_; rintro e w1 ⟨rfl, rfl⟩)
          | (go_at_call 65; refine (HC2.out _ (by first | exact Below.refl _ _ | exact (Below.refl _ _).drew | exact below_drewN (Below.refl _ _) _)).mono ?_; rintro e N1 ⟨rfl, hb⟩; have HB1 : Hid (Below V.heap.size V N1) := hid ((by first | exact hb | exact (Below.refl _ _).drew.trans hb)); replace b0 := kept_cell hb b0; replace b1 := kept_cell hb b1; replace b2 := kept_cell hb b2; clear hb)
          | (go_at_call 94; refine (HC3.out _ (by first | exact HB1.out | exact HB1.out.drew)).mono ?_; rintro e N2 ⟨rfl, hb⟩; have HB2 : Hid (Below V.heap.size V N2) := hid (HB1.out.trans (hb.mono HB1.out.size)); replace b0 := kept_cell hb b0; replace b1 := kept_cell hb b1; replace b2 := kept_cell hb b2; clear hb)
          | (go_at_call 67; refine (HC4.out _).mono ?_; rintro e w1 ⟨rfl, rfl⟩)
          | fail)
        all_goals
          go_wp2_with fail
          go_meet
          case rel => exact ⟨rfl, HB2.out⟩
      case rest =>
        obtain ⟨rfl, HBN⟩ := hcut
        have HR5 := hid (HR4.out.under HBN.out)
        have HBY := hid ((HBN.out.block y (Array.getElem?_eq_some_iff.1 HBX.out).1).trans HBX.out)
        clear HC1 HC2 HC3 HC4 b0 b1 b2 HR4 HBX HBN
        obtain ⟨⟨⟨L, b, vt, vp, ve, ps, h1, hz1, hz2, hz3⟩, h2⟩, h3, h4, h5⟩ := HR5.out
        obtain ⟨ot, ct, hvt, _⟩ := row_shape h1.tops
        subst hvt
        have hyo : ¬ Own q b (.slice ot (wTp J (ts.take k)).tops.length ct) vp ve y := fun ho => by have := HZL.out y (hz1 y ho); omega
        have HI5 := hid h1
        have HZ5 := hid (And.intro hz1 (And.intro hz2 (And.intro hz3 (And.intro h2 (And.intro h3 (And.intro h4 h5))))))
        have HOK5 : Hid (ImOk { (wTp J (ts.take k)) with tops := (wTp J (ts.take k)).tops ++ [T] }) := by
          show ImOk (wTp J (ts.take k ++ [T]))
          rw [← HTK.out]
          exact HNO.out
        clear h1 hz1 hz2 hz3 h2 h3 h4 h5 HR5
        go_upto_region 6 with fail
        refine regionT _ HI5.out T y HBY.out hyo HOK5.out rfl rfl rfl ?_
        intro g c N i1 i2 i3
        simp only [Act.put, List.setIfInBounds_toArray, List.set_cons_zero, List.set_cons_succ]
        have HV3 : Hid (LE w N q x (wTp J (ts.take (k + 1))) (((ts.drop (k + 1)).map tpOne).flatten ++ l)) := by
          obtain ⟨z1, z2, z3, z4, z5, z6, z7⟩ := HZ5.out
          refine ⟨fun j => Own q b (.slice (some ⟨g, 0, none⟩) ((wTp J (ts.take k)).tops.length + 1) c) vp ve j ∨ L j, ⟨⟨L, b, _, vp, ve, ps, ?_, fun j hj => .inl hj, fun j hj => .inr hj, fun j hj => hj.elim (fun h => i1.lt h) (fun h => (i1.lists j h).1)⟩, fun j hj => ?_⟩, z5.kept (i3.block x z5.lt (fun ho => (z4 x (z1 x ho)).2 rfl)), z6, z7.trans (i3.below z7.size (fun j hj => (z4 j (z1 j hj)).1))⟩
          · have e : wTp J (ts.take (k + 1)) = { (wTp J (ts.take k)) with tops := (wTp J (ts.take k)).tops ++ [T] } := by unfold wTp; rw [HTK.out]
            rw [e]
            exact i1
          · have hxl := z5.lt
            have hws := z7.size
            have key : ∀ j, Own q b (.slice ot (wTp J (ts.take k)).tops.length ct) vp ve j → w.heap.size ≤ j ∧ j ≠ x := fun j h => z4 j (z1 j h)
            rcases hj with (e | e | e | e | e) | e
            · exact key j (.inl e)
            · exact key j (.inr (.inl e))
            · have eg : g = j := own_some e
              subst eg
              rcases i2 with e2 | e2
              · exact key g (.inr (.inr (.inl e2)))
              · omega
            · exact key j (.inr (.inr (.inr (.inl e))))
            · exact key j (.inr (.inr (.inr (.inr e))))
            · exact z4 j (z2 j e)
        clear i1 i2 i3 HI5 HZ5 HOK5 HBY
        go_wp2_with fail
        go_roundg (ts.length - (k + 1))
        case measure => omega
        case rel => exact ⟨k + 1, by omega, Nat.le_refl _, by go_num, HV3.out⟩
    · have hlt' : ¬ (k : Int) < (ts.length : Int) := by omega
      obtain rfl : k = ts.length := by omega
      have HE : Hid (LE w wr q x (wTp J ts) l) := by
        have := HR.out
        rw [List.take_length, List.drop_length] at this
        exact this
      clear HR
      go_wp2_with fail
      go_ret
      exact ⟨rfl, HE.out⟩
end Go.Proofs.YtcffomhcmilcpaaGreat

