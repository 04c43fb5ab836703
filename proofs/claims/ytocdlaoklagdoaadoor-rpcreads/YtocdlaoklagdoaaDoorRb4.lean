/- The document's body of a message. -/
import Derived.Test.YtocdlaoklagdoaaDoorG6
import Derived.Deep.DeepCutAuto
namespace Go.Proofs.YtocdlaoklagdoaaDoor
open Go.RowKit Go.Maps
set_option linter.unusedSimpArgs false
set_option linter.unusedVariables false
set_option maxRecDepth 100000

/-- The fourteen numbers' row. -/
theorem row14 (w : World) (m : Msg) (A : Array Value) : ((((w.alloc (.cells A 27)).alloc (.cells A 27)).alloc (.cells #[.int .i64 m.n0, .int .i64 m.n1, .int .i64 m.n2, .int .i64 m.n3, .int .i64 m.n4, .int .i64 m.n5, .int .i64 m.n6, .int .i64 m.n7, .int .i64 m.n8, .int .i64 m.n9, .int .i64 m.n10, .int .i64 m.n11, .int .i64 m.n12, .int .i64 m.n13] 3)).alloc (.cells #[.int .i64 m.err] 3)).ownsRow (w.heap.size + 1) 3 1 (.slice (some ⟨w.heap.size + 1 + 1, 0, none⟩) 14 14) 14 (ic (nums m)) := by
  refine ⟨rfl, .inr ⟨w.heap.size + 1 + 1, 14, #[.int .i64 m.n0, .int .i64 m.n1, .int .i64 m.n2, .int .i64 m.n3, .int .i64 m.n4, .int .i64 m.n5, .int .i64 m.n6, .int .i64 m.n7, .int .i64 m.n8, .int .i64 m.n9, .int .i64 m.n10, .int .i64 m.n11, .int .i64 m.n12, .int .i64 m.n13], rfl, by omega, ?_, Nat.le_refl _, by unfold maxLen; omega, rfl, rfl⟩⟩
  rw [Below.heap_alloc _ _ _ (by simp)]
  have := heap_alloc_new ((w.alloc (.cells A 27)).alloc (.cells A 27)) (.cells #[.int .i64 m.n0, .int .i64 m.n1, .int .i64 m.n2, .int .i64 m.n3, .int .i64 m.n4, .int .i64 m.n5, .int .i64 m.n6, .int .i64 m.n7, .int .i64 m.n8, .int .i64 m.n9, .int .i64 m.n10, .int .i64 m.n11, .int .i64 m.n12, .int .i64 m.n13] 3)
  have z : ((w.alloc (.cells A 27)).alloc (.cells A 27)).heap.size = w.heap.size + 1 + 1 := by simp
  rw [z] at this
  exact this
theorem box_w4 (w : World) (m : Msg) (A : Array Value) : Boxed w ((((w.alloc (.cells A 27)).alloc (.cells A 27)).alloc (.cells #[.int .i64 m.n0, .int .i64 m.n1, .int .i64 m.n2, .int .i64 m.n3, .int .i64 m.n4, .int .i64 m.n5, .int .i64 m.n6, .int .i64 m.n7, .int .i64 m.n8, .int .i64 m.n9, .int .i64 m.n10, .int .i64 m.n11, .int .i64 m.n12, .int .i64 m.n13] 3)).alloc (.cells #[.int .i64 m.err] 3)) (.cells A 27) := by
  have h := ((((Boxed.laid w (.cells A 27)).next ((Below.refl _ _).alloc (Nat.le_refl _) (.cells A 27))).next ((Below.refl _ _).alloc (Nat.le_refl _) (.cells #[.int .i64 m.n0, .int .i64 m.n1, .int .i64 m.n2, .int .i64 m.n3, .int .i64 m.n4, .int .i64 m.n5, .int .i64 m.n6, .int .i64 m.n7, .int .i64 m.n8, .int .i64 m.n9, .int .i64 m.n10, .int .i64 m.n11, .int .i64 m.n12, .int .i64 m.n13] 3))).next ((Below.refl _ _).alloc (Nat.le_refl _) (.cells #[.int .i64 m.err] 3)))
  exact h
theorem box_w3 (w : World) (m : Msg) (A : Array Value) : Boxed w (((w.alloc (.cells A 27)).alloc (.cells A 27)).alloc (.cells #[.int .i64 m.n0, .int .i64 m.n1, .int .i64 m.n2, .int .i64 m.n3, .int .i64 m.n4, .int .i64 m.n5, .int .i64 m.n6, .int .i64 m.n7, .int .i64 m.n8, .int .i64 m.n9, .int .i64 m.n10, .int .i64 m.n11, .int .i64 m.n12, .int .i64 m.n13] 3)) (.cells A 27) := by
  have h := (((Boxed.laid w (.cells A 27)).next ((Below.refl _ _).alloc (Nat.le_refl _) (.cells A 27))).next ((Below.refl _ _).alloc (Nat.le_refl _) (.cells #[.int .i64 m.n0, .int .i64 m.n1, .int .i64 m.n2, .int .i64 m.n3, .int .i64 m.n4, .int .i64 m.n5, .int .i64 m.n6, .int .i64 m.n7, .int .i64 m.n8, .int .i64 m.n9, .int .i64 m.n10, .int .i64 m.n11, .int .i64 m.n12, .int .i64 m.n13] 3)))
  exact h

theorem getD_at {α : Type} (l : List α) (d : α) {k : Nat} (h : k < l.length) : l.getD k d = l[k] := by simp [List.getD, h]
theorem there_txt (m : Msg) (k : Nat) (hk : k < 2) : (there m).getD (15 + k) false = decide ((txts m).getD k [] ≠ []) := by
  have h : k = 0 ∨ k = 1 := by omega
  rcases h with rfl | rfl <;> rfl
theorem txt_cell (m : Msg) (k : Nat) (hk : k < 2) : (#[.string (strOf m.name), .string (strOf m.text)] : Array Value)[k]? = some (.string (strOf ((txts m).getD k []))) := by
  have h : k = 0 ∨ k = 1 := by omega
  rcases h with rfl | rfl <;> rfl
theorem l15_i64 (m : Msg) (h : m.ok) (n : Int) (hn : n ∈ L15 m) : I64 n := by
  unfold L15 at hn
  rcases List.mem_append.1 hn with h1 | h1
  · exact h.nums _ h1
  · rw [List.mem_singleton.1 h1]; exact h.err
set_option maxHeartbeats 6400000 in
theorem refbody_any {w : World} (m : Msg) (ba : Option Addr) (bc : Nat) (ea : Option Addr) (ec : Nat) (ia : Option Addr) (ic : Nat) (hok : m.ok) (hh : Here w m ba ea ia) (hP : rightP m = 0) (hT : m.text.length ≤ 65536) :
    Calls Tryd.prog 24 #[.agg #[.int .i64 m.kind, .int .i64 m.n0, .int .i64 m.n1, .int .i64 m.n2, .int .i64 m.n3, .int .i64 m.n4, .int .i64 m.n5, .int .i64 m.n6, .int .i64 m.n7, .int .i64 m.n8, .int .i64 m.n9, .int .i64 m.n10, .int .i64 m.n11, .int .i64 m.n12, .int .i64 m.n13, .int .i64 m.err, .string (strOf m.name), .string (strOf m.text), .slice ba m.bats.length bc, .slice ea m.ents.length ec, .slice ia m.ints.length ic]] w fun e w' => e = .returned (.string (strOf (bodyM m))) ∧ Below w.heap.size w w' := by
  obtain ⟨_, hnb, hne, hni, hnn, hrb, hre⟩ := rightP_zero hP
  have hde : ∀ e ∈ m.ents, e.data.length ≤ 2048 := fun e he => (entRight_ok (hre e he)).2.2.2.2
  have L17 := p17_le m hnn hT
  have L18 := p18_le m hnn hT hnb
  have L19 := p19_le m hnn hT hnb hne hde
  have L20 := p20_le m hnn hT hnb hne hde hni
  have HTS := hid (fun k => putTs_len m k hnn hT)
  have X0 := hid (Boxed.laid w (.cells #[.int .i64 m.kind, .int .i64 m.n0, .int .i64 m.n1, .int .i64 m.n2, .int .i64 m.n3, .int .i64 m.n4, .int .i64 m.n5, .int .i64 m.n6, .int .i64 m.n7, .int .i64 m.n8, .int .i64 m.n9, .int .i64 m.n10, .int .i64 m.n11, .int .i64 m.n12, .int .i64 m.n13, .int .i64 m.err, .string (strOf m.name), .string (strOf m.text), .slice ba m.bats.length bc, .slice ea m.ents.length ec, .slice ia m.ints.length ic] 27))
  have BX := hid X0.out.box
  have H25 := hid (fun W => rnumbers_any m.kind m.n0 m.n1 m.n2 m.n3 m.n4 m.n5 m.n6 m.n7 m.n8 m.n9 m.n10 m.n11 m.n12 m.n13 m.err (strOf m.name) (strOf m.text) ba ea ia m.bats.length bc m.ents.length ec m.ints.length ic W)
  have H34 := hid (fun n W h => rint_any n W h)
  have H35 := hid (fun t W h => reftext_any t W h)
  have HH := hid hh
  have HOK := hid hok
  have HRB := hid hrb
  have HDE := hid hde
  have HRE := hid hre
  have c15 : (((w.alloc (.cells #[.int .i64 m.kind, .int .i64 m.n0, .int .i64 m.n1, .int .i64 m.n2, .int .i64 m.n3, .int .i64 m.n4, .int .i64 m.n5, .int .i64 m.n6, .int .i64 m.n7, .int .i64 m.n8, .int .i64 m.n9, .int .i64 m.n10, .int .i64 m.n11, .int .i64 m.n12, .int .i64 m.n13, .int .i64 m.err, .string (strOf m.name), .string (strOf m.text), .slice ba m.bats.length bc, .slice ea m.ents.length ec, .slice ia m.ints.length ic] 27)).alloc (.cells #[.int .i64 m.kind, .int .i64 m.n0, .int .i64 m.n1, .int .i64 m.n2, .int .i64 m.n3, .int .i64 m.n4, .int .i64 m.n5, .int .i64 m.n6, .int .i64 m.n7, .int .i64 m.n8, .int .i64 m.n9, .int .i64 m.n10, .int .i64 m.n11, .int .i64 m.n12, .int .i64 m.n13, .int .i64 m.err, .string (strOf m.name), .string (strOf m.text), .slice ba m.bats.length bc, .slice ea m.ents.length ec, .slice ia m.ints.length ic] 27)).alloc (.cells #[.int .i64 m.n0, .int .i64 m.n1, .int .i64 m.n2, .int .i64 m.n3, .int .i64 m.n4, .int .i64 m.n5, .int .i64 m.n6, .int .i64 m.n7, .int .i64 m.n8, .int .i64 m.n9, .int .i64 m.n10, .int .i64 m.n11, .int .i64 m.n12, .int .i64 m.n13] 3)).cell? ⟨w.heap.size, 15, none⟩ = some (.int .i64 m.err) := cell_blk (box_w3 w m #[.int .i64 m.kind, .int .i64 m.n0, .int .i64 m.n1, .int .i64 m.n2, .int .i64 m.n3, .int .i64 m.n4, .int .i64 m.n5, .int .i64 m.n6, .int .i64 m.n7, .int .i64 m.n8, .int .i64 m.n9, .int .i64 m.n10, .int .i64 m.n11, .int .i64 m.n12, .int .i64 m.n13, .int .i64 m.err, .string (strOf m.name), .string (strOf m.text), .slice ba m.bats.length bc, .slice ea m.ents.length ec, .slice ia m.ints.length ic]).box 15 _ rfl
  obtain ⟨i0, hi0, hz0, hz1, hz2⟩ := info3
  have R14 := hid (row14 w m #[.int .i64 m.kind, .int .i64 m.n0, .int .i64 m.n1, .int .i64 m.n2, .int .i64 m.n3, .int .i64 m.n4, .int .i64 m.n5, .int .i64 m.n6, .int .i64 m.n7, .int .i64 m.n8, .int .i64 m.n9, .int .i64 m.n10, .int .i64 m.n11, .int .i64 m.n12, .int .i64 m.n13, .int .i64 m.err, .string (strOf m.name), .string (strOf m.text), .slice ba m.bats.length bc, .slice ea m.ents.length ec, .slice ia m.ints.length ic])
  clear hh hok hrb hde hre hP
  go_enter Tryd.func24, Tryd.ntmps24
  go_wp2_with (first | (refine wpList_load_row rfl 27 _ rfl w.heap.size rfl 27 _ (0, 0) _ BX.out Tryd.underlying27 rfl size27 ?_) | fail)
  refine (H25.out _).mono ?_
  rintro e w1 ⟨rfl, rfl⟩
  go_upto_region 6 with (first | (at_builtin; refine wpList_append_own_at _ rfl _ _ 25 rfl (w.heap.size + 1) 3 i0 _ 1 8 Tryd.underlying25 hi0 hz0 hz1 hz2 rfl (by decide) _ 14 _ rfl R14.out ⟨w.heap.size + 1 + 1 + 1, 0, none⟩ 1 1 [.int .i64 m.err] rfl rfl (one_cell (by simp)) (by simp [Value.oneCell']) (by unfold maxLen; omega) (by omega) (by simp <;> omega) ?_; intro v' w2 hown2 hg2 _ hat))
  have hL : (L15 m).length = 15 := rfl
  have hrow : w2.ownsRow (w.heap.size + 1) 3 1 v' (L15 m).length (Go.Proofs.YtocdlaoklagdoaaDoor.ic (L15 m)) := by
    have e : Go.Proofs.YtocdlaoklagdoaaDoor.ic (L15 m) = Go.Proofs.YtocdlaoklagdoaaDoor.ic (nums m) ++ [.int .i64 m.err] := by simp [Go.Proofs.YtocdlaoklagdoaaDoor.ic, L15]
    rw [hL, e]
    exact hown2
  obtain ⟨na, nc, hv, hhi⟩ := ints_of_row hrow
  rw [hL] at hv
  have HI := hid hhi.at
  have B4 := box_w4 w m #[.int .i64 m.kind, .int .i64 m.n0, .int .i64 m.n1, .int .i64 m.n2, .int .i64 m.n3, .int .i64 m.n4, .int .i64 m.n5, .int .i64 m.n6, .int .i64 m.n7, .int .i64 m.n8, .int .i64 m.n9, .int .i64 m.n10, .int .i64 m.n11, .int .i64 m.n12, .int .i64 m.n13, .int .i64 m.err, .string (strOf m.name), .string (strOf m.text), .slice ba m.bats.length bc, .slice ea m.ents.length ec, .slice ia m.ints.length ic]
  have hz4 : ((((w.alloc (.cells #[.int .i64 m.kind, .int .i64 m.n0, .int .i64 m.n1, .int .i64 m.n2, .int .i64 m.n3, .int .i64 m.n4, .int .i64 m.n5, .int .i64 m.n6, .int .i64 m.n7, .int .i64 m.n8, .int .i64 m.n9, .int .i64 m.n10, .int .i64 m.n11, .int .i64 m.n12, .int .i64 m.n13, .int .i64 m.err, .string (strOf m.name), .string (strOf m.text), .slice ba m.bats.length bc, .slice ea m.ents.length ec, .slice ia m.ints.length ic] 27)).alloc (.cells #[.int .i64 m.kind, .int .i64 m.n0, .int .i64 m.n1, .int .i64 m.n2, .int .i64 m.n3, .int .i64 m.n4, .int .i64 m.n5, .int .i64 m.n6, .int .i64 m.n7, .int .i64 m.n8, .int .i64 m.n9, .int .i64 m.n10, .int .i64 m.n11, .int .i64 m.n12, .int .i64 m.n13, .int .i64 m.err, .string (strOf m.name), .string (strOf m.text), .slice ba m.bats.length bc, .slice ea m.ents.length ec, .slice ia m.ints.length ic] 27)).alloc (.cells #[.int .i64 m.n0, .int .i64 m.n1, .int .i64 m.n2, .int .i64 m.n3, .int .i64 m.n4, .int .i64 m.n5, .int .i64 m.n6, .int .i64 m.n7, .int .i64 m.n8, .int .i64 m.n9, .int .i64 m.n10, .int .i64 m.n11, .int .i64 m.n12, .int .i64 m.n13] 3)).alloc (.cells #[.int .i64 m.err] 3)).heap.size = w.heap.size + 4 := by simp
  have B2 : Hid (Boxed w w2 (.cells #[.int .i64 m.kind, .int .i64 m.n0, .int .i64 m.n1, .int .i64 m.n2, .int .i64 m.n3, .int .i64 m.n4, .int .i64 m.n5, .int .i64 m.n6, .int .i64 m.n7, .int .i64 m.n8, .int .i64 m.n9, .int .i64 m.n10, .int .i64 m.n11, .int .i64 m.n12, .int .i64 m.n13, .int .i64 m.err, .string (strOf m.name), .string (strOf m.text), .slice ba m.bats.length bc, .slice ea m.ents.length ec, .slice ia m.ints.length ic] 27)) := ⟨B4.below.grown hg2 B4.below.size (fun k hk => by have : w.heap.size + 1 + 1 = k := Option.some.inj hk; omega), (hg2.block _ (by rw [hz4]; omega) (fun e => by have : w.heap.size = w.heap.size + 1 + 1 := Option.some.inj e; omega)).trans B4.box⟩
  subst hv
  clear hrow hown2 hg2 hat hhi B4 hz4 R14 c15 X0 BX
  have HS0 : Hid ((⟨#[]⟩ : ByteArray) = strOf (putNs ((L15 m).take 0))) := rfl
  go_wp2_with fail
  go_loopg [3, 4, 5, 7] 15 (fun kx s3 s4 s5 s7 wr => ∃ (k : Nat) (S : ByteArray) (U V : Nat), k ≤ 15 ∧ 15 - k ≤ kx ∧ s3 = .string S ∧ s4 = .int .i64 U ∧ s5 = .int .i64 V ∧ s7 = .int .i64 k ∧ Hid (S = strOf (putNs ((L15 m).take k))) ∧ Hid (U = sumT m k ∧ V = 2 ^ k) ∧ Hid (Boxed w wr (.cells #[.int .i64 m.kind, .int .i64 m.n0, .int .i64 m.n1, .int .i64 m.n2, .int .i64 m.n3, .int .i64 m.n4, .int .i64 m.n5, .int .i64 m.n6, .int .i64 m.n7, .int .i64 m.n8, .int .i64 m.n9, .int .i64 m.n10, .int .i64 m.n11, .int .i64 m.n12, .int .i64 m.n13, .int .i64 m.err, .string (strOf m.name), .string (strOf m.text), .slice ba m.bats.length bc, .slice ea m.ents.length ec, .slice ia m.ints.length ic] 27) ∧ IntsAt wr na wr.heap.size (L15 m)))
  case atStart => exact ⟨0, _, 0, 1, by omega, by omega, rfl, rfl, rfl, rfl, HS0, ⟨rfl, rfl⟩, B2.out, HI.out⟩
  case round =>
    obtain ⟨k, S, U, V, hk, hkx, rfl, rfl, rfl, rfl, HK, HU, HD⟩ := hrel
    clear HS0 B2 HI
    by_cases hlt : k < 15
    · have hlt' : (k : Int) < 15 := by omega
      have i0' : (0 : Int) ≤ (k : Int) := by omega
      have hkl : k < (L15 m).length := by rw [hL]; exact hlt
      obtain ⟨g1, o1, h1, s0⟩ := HD.out.2.at k hkl
      subst h1
      have hU1 := sumT_lt m k (by omega)
      have hV1 : (2 : Nat) ^ k ≤ 2 ^ 14 := Nat.pow_le_pow_right (by omega) (by omega)
      have e14 : (2 : Nat) ^ 14 = 16384 := by decide
      rw [← HU.out.1] at hU1
      rw [← HU.out.2, e14] at hV1
      have hst := sumT_step m k (by omega)
      rw [there_num m k hlt, ← HU.out.1, getD_at _ _ hkl] at hst
      have hVn : Hid (2 * V = 2 ^ (k + 1)) := by show _ = _; rw [HU.out.2, Nat.pow_succ]; omega
      have pX := hid (l15_i64 m HOK.out _ (List.getElem_mem hkl))
      have HTk := hid (putNs_take (L15 m) k hkl)
      have hlen := p15_len m k
      have hUi : (U : Int) < 1048576 := by omega
      have hVi : (V : Int) ≤ 16384 := by omega
      clear e14
      generalize (L15 m)[k]'hkl = X at *
      by_cases hx : X = 0
      · subst hx
        have HSn : Hid (S = strOf (putNs ((L15 m).take (k + 1)))) := by show _ = _; rw [HTk.out]; simpa [putN] using HK.out
        have HUn : Hid (U = sumT m (k + 1) ∧ 2 * V = 2 ^ (k + 1)) := ⟨by simpa [bitV] using hst.symm, hVn.out⟩
        clear hst hlen pX
        go_wp2_with fail
        go_roundg (15 - (k + 1))
        case measure => omega
        case rel => exact ⟨k + 1, S, U, 2 * V, by omega, Nat.le_refl _, rfl, rfl, by go_num, by go_num, HSn, HUn, HD⟩
      · have q : (X != 0) = true := by simpa using hx
        have hx1 : decide (X ≠ 0) = true := by simpa using hx
        rw [hx1] at hst
        rw [putN_pos hx] at HTk
        have z := (intL_length X).2
        obtain ⟨S1, g1', t1, a1⟩ := sfit (putNs ((L15 m).take k)) (intL X) S HK.out (by omega)
        have HSn : Hid (S1 = strOf (putNs ((L15 m).take (k + 1)))) := by show _ = _; rw [HTk.out]; exact g1'
        have HUn : Hid (U + V = sumT m (k + 1) ∧ 2 * V = 2 ^ (k + 1)) := ⟨by rw [hst, HU.out.2]; simp [bitV], hVn.out⟩
        clear hst hlen HTk hx hx1 g1' z
        go_wp2_with (go_at_call 34; refine (H34.out X _ pX.out).mono ?_; rintro e w5 ⟨rfl, hb5⟩)
        go_roundg (15 - (k + 1))
        case measure => omega
        case rel => exact ⟨k + 1, S1, U + V, 2 * V, by omega, Nat.le_refl _, rfl, by go_num, by go_num, by go_num, HSn, HUn, HD.out.1.next hb5, HD.out.2.up hb5⟩
    · have hlt' : ¬ (k : Int) < 15 := by omega
      obtain rfl : k = 15 := by omega
      have hU1 := sumT_lt m 15 (by omega)
      have HSn : Hid (S = strOf (p15 m ++ putTs ((txts m).take 0))) := by show _ = _; rw [HK.out]; simp [putTs, p15, List.take_of_length_le (show (L15 m).length ≤ 15 from Nat.le_refl _)]
      have HUn : Hid (U = sumT m (15 + 0) ∧ V = 2 ^ (15 + 0)) := HU.out
      have cc := HD.out.1.box
      have c16 := cell_blk cc 16 _ rfl
      have c17 := cell_blk cc 17 _ rfl
      have BB : Hid (Boxed w (wr.alloc (.cells #[.string (strOf m.name), .string (strOf m.text)] 9)) (.cells #[.int .i64 m.kind, .int .i64 m.n0, .int .i64 m.n1, .int .i64 m.n2, .int .i64 m.n3, .int .i64 m.n4, .int .i64 m.n5, .int .i64 m.n6, .int .i64 m.n7, .int .i64 m.n8, .int .i64 m.n9, .int .i64 m.n10, .int .i64 m.n11, .int .i64 m.n12, .int .i64 m.n13, .int .i64 m.err, .string (strOf m.name), .string (strOf m.text), .slice ba m.bats.length bc, .slice ea m.ents.length ec, .slice ia m.ints.length ic] 27) ∧ Boxed wr (wr.alloc (.cells #[.string (strOf m.name), .string (strOf m.text)] 9)) (.cells #[.string (strOf m.name), .string (strOf m.text)] 9)) := ⟨HD.out.1.next ((Below.refl _ _).alloc (Nat.le_refl _) _), Boxed.laid _ _⟩
      have hz9 : Hid (wr.heap.size < (wr.alloc (.cells #[.string (strOf m.name), .string (strOf m.text)] 9)).heap.size) := by show _ < _; simp
      clear cc HK HU hU1
      go_wp2_with fail
      generalize hbx : wr.heap.size = bx at *
      go_loopg [3, 4, 5, 9] 2 (fun kx s3 s4 s5 s9 wx => ∃ (k : Nat) (S : ByteArray) (U V : Nat), k ≤ 2 ∧ 2 - k ≤ kx ∧ s3 = .string S ∧ s4 = .int .i64 U ∧ s5 = .int .i64 V ∧ s9 = .int .i64 k ∧ Hid (S = strOf (p15 m ++ putTs ((txts m).take k))) ∧ Hid (U = sumT m (15 + k) ∧ V = 2 ^ (15 + k)) ∧ Hid (Boxed w wx (.cells #[.int .i64 m.kind, .int .i64 m.n0, .int .i64 m.n1, .int .i64 m.n2, .int .i64 m.n3, .int .i64 m.n4, .int .i64 m.n5, .int .i64 m.n6, .int .i64 m.n7, .int .i64 m.n8, .int .i64 m.n9, .int .i64 m.n10, .int .i64 m.n11, .int .i64 m.n12, .int .i64 m.n13, .int .i64 m.err, .string (strOf m.name), .string (strOf m.text), .slice ba m.bats.length bc, .slice ea m.ents.length ec, .slice ia m.ints.length ic] 27) ∧ wx.heap[bx]? = some (.cells #[.string (strOf m.name), .string (strOf m.text)] 9) ∧ bx < wx.heap.size))
      case atStart => exact ⟨0, S, U, V, by omega, by omega, rfl, rfl, rfl, rfl, HSn, HUn, BB.out.1, (by have := BB.out.2.box; rw [hbx] at this; exact this), hz9.out⟩
      case round =>
        clear HSn HUn BB hlt' hlt c16 c17 hz9
        obtain ⟨k, S, U, V, hk, hkx, rfl, rfl, rfl, rfl, HK, HU, HD⟩ := hrel
        by_cases hlt : k < 2
        · have hlt' : (k : Int) < 2 := by omega
          have i0' : (0 : Int) ≤ (k : Int) := by omega
          have hkl : k < (txts m).length := hlt
          have s0 := cell_blk HD.out.2.1 k _ (txt_cell m k hlt)
          have hU1 := sumT_lt m (15 + k) (by omega)
          have hV1 : (2 : Nat) ^ (15 + k) ≤ 2 ^ 16 := Nat.pow_le_pow_right (by omega) (by omega)
          have e14 : (2 : Nat) ^ 16 = 65536 := by decide
          rw [← HU.out.1] at hU1
          rw [← HU.out.2, e14] at hV1
          have hst := sumT_step m (15 + k) (by omega)
          rw [there_txt m k hlt, ← HU.out.1, getD_at _ _ hkl] at hst
          rw [getD_at _ _ hkl] at s0
          have hVn : Hid (2 * V = 2 ^ (15 + k + 1)) := by show _ = _; rw [HU.out.2, Nat.pow_succ]; omega
          have HTk := hid (putTs_take (txts m) k hkl)
          have hlen := HTS.out k
          have hl15 := p15_le m
          have htl : ((txts m)[k]'hkl).length ≤ 65536 := by
            have hm : (txts m)[k]'hkl ∈ [m.name, m.text] := List.getElem_mem hkl
            simp only [List.mem_cons, List.not_mem_nil, or_false] at hm
            rcases hm with h | h <;> rw [h] <;> omega
          have hUi : (U : Int) < 1048576 := by omega
          have hVi : (V : Int) ≤ 65536 := by omega
          clear e14
          generalize (txts m)[k]'hkl = X at *
          by_cases hx : X = []
          · subst hx
            have HSn : Hid (S = strOf (p15 m ++ putTs ((txts m).take (k + 1)))) := by show _ = _; rw [HTk.out]; simpa [putT] using HK.out
            have HUn : Hid (U = sumT m (15 + k + 1) ∧ 2 * V = 2 ^ (15 + k + 1)) := ⟨by simpa [bitV] using hst.symm, hVn.out⟩
            have q : (strOf ([] : List UInt8)).toList.isEmpty = true := by rw [str_empty]; simp
            clear hst hlen htl
            go_wp2_with fail
            go_roundg (2 - (k + 1))
            case measure => omega
            case rel => exact ⟨k + 1, S, U, 2 * V, by omega, Nat.le_refl _, rfl, rfl, by go_num, by go_num, HSn, HUn, HD⟩
          · have q : (strOf X).toList.isEmpty = false := by rw [str_empty]; simp [hx]
            have hx1 : decide (X ≠ []) = true := by simpa using hx
            rw [hx1] at hst
            rw [putT_pos hx] at HTk
            have z := textL_length X
            obtain ⟨S1, g1', t1, a1⟩ := sfit (p15 m ++ putTs ((txts m).take k)) (textL X) S HK.out (by rw [List.length_append]; omega)
            have HSn : Hid (S1 = strOf (p15 m ++ putTs ((txts m).take (k + 1)))) := by show _ = _; rw [HTk.out, g1', List.append_assoc]
            have HUn : Hid (U + V = sumT m (15 + k + 1) ∧ 2 * V = 2 ^ (15 + k + 1)) := ⟨by rw [hst, HU.out.2]; simp [bitV], hVn.out⟩
            clear hst hlen HTk hx hx1 g1' z
            go_wp2_with (go_at_call 35; refine (H35.out X _ (by omega)).mono ?_; rintro e w5 ⟨rfl, hb5⟩)
            go_roundg (2 - (k + 1))
            case measure => omega
            case rel => exact ⟨k + 1, S1, U + V, 2 * V, by omega, Nat.le_refl _, rfl, by go_num, by go_num, by go_num, HSn, HUn, HD.out.1.next hb5, (hb5.block _ HD.out.2.2).trans HD.out.2.1, Nat.lt_of_lt_of_le HD.out.2.2 hb5.size⟩
        · have hlt' : ¬ (k : Int) < 2 := by omega
          obtain rfl : k = 2 := by omega
          have HS17 : Hid (S = strOf (p17 m)) := by show _ = _; rw [HK.out]; rfl
          have HU17 : Hid (U = sumT m 17) := HU.out.1
          have hV : V = 131072 := HU.out.2
          subst hV
          have hU1 := sumT_lt m 17 (by omega)
          rw [← HU17.out] at hU1
          have hUi : (U : Int) < 1048576 := by omega
          have HW := hid HD.out.1
          have c18 := cell_blk HW.out.box 18 _ rfl
          clear HK HU HD
          obtain ⟨BQ, hBQ⟩ : ∃ B : Bool, decide (0 < m.bats.length) = B := ⟨_, rfl⟩
          have hBQ2 : decide ((0 : Int) < (m.bats.length : Int)) = BQ := by rw [← hBQ]; simp
          go_upto_if 75 with fail
          go_cut [3, 4, 10, 11, 12] from 16 (fun s3 s4 s10 s11 s12 wx => ∃ (S : ByteArray) (U : Nat), s3 = .string S ∧ s4 = .int .i64 U ∧ Hid (S = strOf (p18 m)) ∧ Hid (U = sumT m 18) ∧ Hid (Boxed w wx (.cells #[.int .i64 m.kind, .int .i64 m.n0, .int .i64 m.n1, .int .i64 m.n2, .int .i64 m.n3, .int .i64 m.n4, .int .i64 m.n5, .int .i64 m.n6, .int .i64 m.n7, .int .i64 m.n8, .int .i64 m.n9, .int .i64 m.n10, .int .i64 m.n11, .int .i64 m.n12, .int .i64 m.n13, .int .i64 m.err, .string (strOf m.name), .string (strOf m.text), .slice ba m.bats.length bc, .slice ea m.ents.length ec, .slice ia m.ints.length ic] 27)))
          case first =>
            have hst := sumT_step m 17 (by omega)
            rw [← HU17.out, show (there m).getD 17 false = decide (0 < m.bats.length) from rfl] at hst
            cases BQ with
            | false =>
              have hb0 : m.bats.length = 0 := by simpa using hBQ
              have e0 : m.bats = [] := List.length_eq_zero_iff.1 hb0
              have HSn : Hid (S = strOf (p18 m)) := by show _ = _; rw [HS17.out]; simp [p18, putB, putN, e0, batsL]
              have HUn : Hid (U = sumT m 18) := by show _ = _; rw [hst, hb0]; simp [bitV]
              clear hst e0 hb0 hBQ hBQ2
              go_wp2_with fail
              go_meet
              exact ⟨S, U, rfl, rfl, HSn, HUn, HW⟩
            | true =>
              have hq0 : 0 < m.bats.length := by simpa using hBQ
              have hb0 : ¬ m.bats.length = 0 := by omega
              have HUn : Hid (U + 131072 = sumT m 18) := by show _ = _; rw [hst, decide_eq_true (show 0 < m.bats.length by omega)]; simp [bitV]
              have pL : Hid (I64 (m.bats.length : Int)) := ⟨by omega, by omega⟩
              have z := (intL_length (m.bats.length : Int)).2
              have hne0 : (m.bats.length : Int) ≠ 0 := by omega
              obtain ⟨S1, g1', t1, a1⟩ := sfit (p17 m) (intL (m.bats.length : Int)) S HS17.out (by omega)
              have HS0 : Hid (S1 = strOf (p17 m ++ intL (m.bats.length : Int) ++ batsL (m.bats.take 0))) := by show _ = _; rw [g1']; simp [batsL]
              have HP : Hid (p18 m = p17 m ++ intL (m.bats.length : Int) ++ batsL m.bats) := by show _ = _; unfold p18 putB; rw [putN_pos hne0, List.append_assoc]
              clear hst hb0 g1' hne0 hBQ hBQ2 hq0
              go_wp2_with (go_at_call 34; refine (H34.out _ _ pL.out).mono ?_; rintro e w5 ⟨rfl, hb5⟩)
              have HW5 := hid (HW.out.next hb5)
              clear hb5 HW c18
              go_loopg [3, 10] m.bats.length (fun kx s3 s10 wx => ∃ (k : Nat) (S : ByteArray), k ≤ m.bats.length ∧ m.bats.length - k ≤ kx ∧ s3 = .string S ∧ s10 = .int .i64 k ∧ Hid (S = strOf (p17 m ++ intL (m.bats.length : Int) ++ batsL (m.bats.take k))) ∧ Hid (Boxed w wx (.cells #[.int .i64 m.kind, .int .i64 m.n0, .int .i64 m.n1, .int .i64 m.n2, .int .i64 m.n3, .int .i64 m.n4, .int .i64 m.n5, .int .i64 m.n6, .int .i64 m.n7, .int .i64 m.n8, .int .i64 m.n9, .int .i64 m.n10, .int .i64 m.n11, .int .i64 m.n12, .int .i64 m.n13, .int .i64 m.err, .string (strOf m.name), .string (strOf m.text), .slice ba m.bats.length bc, .slice ea m.ents.length ec, .slice ia m.ints.length ic] 27)))
              case atStart => exact ⟨0, S1, by omega, by omega, rfl, rfl, HS0, HW5⟩
              case round =>
                clear HS0 HW5 hlt' hlt t1 a1
                obtain ⟨k, S2, hk, hkx, rfl, rfl, HK, HD⟩ := hrel
                have c18 := cell_blk HD.out.box 18 _ rfl
                by_cases hlt : k < m.bats.length
                · have hlt' : (k : Int) < (m.bats.length : Int) := by omega
                  have i0' : (0 : Int) ≤ (k : Int) := by omega
                  obtain ⟨g1, o1, ra, rc, h1, ⟨s0, s1, s2, s3, s4, s5⟩, hr1⟩ := (HH.out.bats.under HD.out.below).at k hlt
                  subst h1
                  have H36 := hid (refbatch_any m.bats[k] ra rc hr1 (HOK.out.bats _ (List.getElem_mem hlt)))
                  have HTk := hid (batsL_take m.bats k hlt)
                  have zb := batchL_length m.bats[k]
                  have zk := batsL_length (m.bats.take k)
                  rw [List.length_take, Nat.min_eq_left (by omega)] at zk
                  obtain ⟨S3, g3, t3, a3⟩ := sfit (p17 m ++ intL (m.bats.length : Int) ++ batsL (m.bats.take k)) (batchL m.bats[k]).1 S2 HK.out (by simp only [List.length_append]; omega)
                  have HSn : Hid (S3 = strOf (p17 m ++ intL (m.bats.length : Int) ++ batsL (m.bats.take (k + 1)))) := by show _ = _; rw [HTk.out, g3]; simp only [List.append_assoc]
                  clear g3 HTk hr1 zb zk
                  generalize m.bats[k].base = u0 at *
                  generalize m.bats[k].epoch = u1 at *
                  generalize m.bats[k].pid = u2 at *
                  generalize m.bats[k].pidEpoch = u3 at *
                  generalize m.bats[k].seq = u4 at *
                  generalize m.bats[k].recs.length = u5 at *
                  generalize batchL m.bats[k] = BL at *
                  go_wp2_with (go_at_call 36; refine H36.out.mono ?_; rintro e w6 ⟨rfl, hb6⟩)
                  go_roundg (m.bats.length - (k + 1))
                  case measure => omega
                  case rel => exact ⟨k + 1, S3, by omega, Nat.le_refl _, rfl, by go_num, HSn, HD.out.next hb6⟩
                · have hlt' : ¬ (k : Int) < (m.bats.length : Int) := by omega
                  have HSn : Hid (S2 = strOf (p18 m)) := by show _ = _; rw [HK.out, HP.out, List.take_of_length_le (by omega)]
                  go_wp2_with fail
                  go_meet
                  exact ⟨S2, U + 131072, rfl, by go_num, HSn, HUn, HD⟩
          case rest =>
          clear hBQ hBQ2 BQ
          obtain ⟨S', U', rfl, rfl, HS18, HU18, HW18⟩ := hcut
          clear HS17 HU17 HW c18 hU1 hUi
          have hU1 := sumT_lt m 18 (by omega)
          rw [← HU18.out] at hU1
          have hUi : (U' : Int) < 1048576 := by omega
          have c19 := cell_blk HW18.out.box 19 _ rfl
          obtain ⟨BQ, hBQ⟩ : ∃ B : Bool, decide (0 < m.ents.length) = B := ⟨_, rfl⟩
          have hBQ2 : decide ((0 : Int) < (m.ents.length : Int)) = BQ := by rw [← hBQ]; simp
          go_upto_if 109 with fail
          go_cut [3, 4, 13, 14] from 16 (fun s3 s4 s13 s14 wx => ∃ (S : ByteArray) (U : Nat), s3 = .string S ∧ s4 = .int .i64 U ∧ Hid (S = strOf (p19 m)) ∧ Hid (U = sumT m 19) ∧ Hid (Boxed w wx (.cells #[.int .i64 m.kind, .int .i64 m.n0, .int .i64 m.n1, .int .i64 m.n2, .int .i64 m.n3, .int .i64 m.n4, .int .i64 m.n5, .int .i64 m.n6, .int .i64 m.n7, .int .i64 m.n8, .int .i64 m.n9, .int .i64 m.n10, .int .i64 m.n11, .int .i64 m.n12, .int .i64 m.n13, .int .i64 m.err, .string (strOf m.name), .string (strOf m.text), .slice ba m.bats.length bc, .slice ea m.ents.length ec, .slice ia m.ints.length ic] 27)))
          case first =>
            have hst := sumT_step m 18 (by omega)
            rw [← HU18.out, show (there m).getD 18 false = decide (0 < m.ents.length) from rfl] at hst
            cases BQ with
            | false =>
              have hb0 : m.ents.length = 0 := by simpa using hBQ
              have e0 : m.ents = [] := List.length_eq_zero_iff.1 hb0
              have HSn : Hid (S' = strOf (p19 m)) := by show _ = _; rw [HS18.out]; simp [p19, putE, putN, e0, entsL]
              have HUn : Hid (U' = sumT m 19) := by show _ = _; rw [hst, hb0]; simp [bitV]
              clear hst e0 hb0 hBQ hBQ2
              go_wp2_with fail
              go_meet
              exact ⟨S', U', rfl, rfl, HSn, HUn, HW18⟩
            | true =>
              have hq0 : 0 < m.ents.length := by simpa using hBQ
              have hb0 : ¬ m.ents.length = 0 := by omega
              have HUn : Hid (U' + 262144 = sumT m 19) := by show _ = _; rw [hst, decide_eq_true (show 0 < m.ents.length by omega)]; simp [bitV]
              have pL : Hid (I64 (m.ents.length : Int)) := ⟨by omega, by omega⟩
              have z := (intL_length (m.ents.length : Int)).2
              have hne0 : (m.ents.length : Int) ≠ 0 := by omega
              obtain ⟨S1, g1', t1, a1⟩ := sfit (p18 m) (intL (m.ents.length : Int)) S' HS18.out (by omega)
              have HS0 : Hid (S1 = strOf (p18 m ++ intL (m.ents.length : Int) ++ entsL (m.ents.take 0))) := by show _ = _; rw [g1']; simp [entsL]
              have HP : Hid (p19 m = p18 m ++ intL (m.ents.length : Int) ++ entsL m.ents) := by show _ = _; unfold p19 putE; rw [putN_pos hne0, List.append_assoc]
              clear hst hb0 g1' hne0 hBQ hBQ2 hq0
              go_wp2_with (go_at_call 34; refine (H34.out _ _ pL.out).mono ?_; rintro e w5 ⟨rfl, hb5⟩)
              have HW5 := hid (HW18.out.next hb5)
              clear hb5 HW18 c19
              go_loopg [3, 13] m.ents.length (fun kx s3 s13 wx => ∃ (k : Nat) (S : ByteArray), k ≤ m.ents.length ∧ m.ents.length - k ≤ kx ∧ s3 = .string S ∧ s13 = .int .i64 k ∧ Hid (S = strOf (p18 m ++ intL (m.ents.length : Int) ++ entsL (m.ents.take k))) ∧ Hid (Boxed w wx (.cells #[.int .i64 m.kind, .int .i64 m.n0, .int .i64 m.n1, .int .i64 m.n2, .int .i64 m.n3, .int .i64 m.n4, .int .i64 m.n5, .int .i64 m.n6, .int .i64 m.n7, .int .i64 m.n8, .int .i64 m.n9, .int .i64 m.n10, .int .i64 m.n11, .int .i64 m.n12, .int .i64 m.n13, .int .i64 m.err, .string (strOf m.name), .string (strOf m.text), .slice ba m.bats.length bc, .slice ea m.ents.length ec, .slice ia m.ints.length ic] 27)))
              case atStart => exact ⟨0, S1, by omega, by omega, rfl, rfl, HS0, HW5⟩
              case round =>
                clear HS0 HW5 hlt' hlt t1 a1
                obtain ⟨k, S2, hk, hkx, rfl, rfl, HK, HD⟩ := hrel
                have c19 := cell_blk HD.out.box 19 _ rfl
                by_cases hlt : k < m.ents.length
                · have hlt' : (k : Int) < (m.ents.length : Int) := by omega
                  have i0' : (0 : Int) ≤ (k : Int) := by omega
                  obtain ⟨g1, o1, h1, s0, s1, s2⟩ := (HH.out.ents.under HD.out.below).at k hlt
                  subst h1
                  have hdl := HDE.out _ (List.getElem_mem hlt)
                  obtain ⟨n1, n2, n3, n4, _⟩ := entRight_ok (HRE.out _ (List.getElem_mem hlt))
                  have HTk := hid (entsL_take m.ents k hlt)
                  have zk := entsL_length (m.ents.take k) (fun e he => HDE.out e (List.mem_of_mem_take he))
                  rw [List.length_take, Nat.min_eq_left (by omega)] at zk
                  generalize m.ents[k] = R at *
                  have p0 : Hid (I64 R.term) := ⟨by omega, by omega⟩
                  have p1 : Hid (I64 R.index) := ⟨by omega, by omega⟩
                  have y0 := (intL_length R.term).2
                  have y1 := (intL_length R.index).2
                  have y2 := textL_length R.data
                  obtain ⟨M, hMe⟩ : ∃ M, M = p18 m ++ intL (m.ents.length : Int) ++ entsL (m.ents.take k) := ⟨_, rfl⟩
                  have hM : M.length ≤ 900000 := by rw [hMe]; simp only [List.length_append]; omega
                  have HM := hid hMe
                  rw [← hMe] at HK
                  clear hMe zk
                  obtain ⟨V1, v1, t3, a3⟩ := sfit M (intL R.term) S2 HK.out (by omega)
                  obtain ⟨V2, v2, t4, a4⟩ := sfit (M ++ intL R.term) (intL R.index) V1 v1 (by simp only [List.length_append]; omega)
                  obtain ⟨V3, v3, t5, a5⟩ := sfit (M ++ intL R.term ++ intL R.index) (textL R.data) V2 v2 (by simp only [List.length_append]; omega)
                  have HSn : Hid (V3 = strOf (p18 m ++ intL (m.ents.length : Int) ++ entsL (m.ents.take (k + 1)))) := by show _ = _; rw [HTk.out, v3, HM.out]; simp [entL, intsL]
                  clear v1 v2 v3 HTk hM y0 y1 y2 n1 n2 n3 n4
                  go_wp2_with fail
                  obtain ⟨W, hW⟩ : ∃ W, W = wr.alloc (.cells #[.int .i64 R.term, .int .i64 R.index, .string (strOf R.data)] 52) := ⟨_, rfl⟩
                  have X0 : Hid (Boxed wr W (.cells #[.int .i64 R.term, .int .i64 R.index, .string (strOf R.data)] 52)) := by rw [hW]; exact Boxed.laid _ _
                  rw [← hW]
                  clear hW
                  obtain ⟨c0, c1, c2⟩ := three X0.out
                  have hX : Hid (Boxed wr W.drew (.cells #[.int .i64 R.term, .int .i64 R.index, .string (strOf R.data)] 52)) := ⟨X0.out.below.drew, X0.out.box⟩
                  clear s0 s1 s2
                  go_region_held3 (fun w' => w'.cell? ⟨wr.heap.size, 0, none⟩ = some (.int .i64 R.term) ∧ w'.cell? ⟨wr.heap.size, 1, none⟩ = some (.int .i64 R.index) ∧ w'.cell? ⟨wr.heap.size, 2, none⟩ = some (.string (strOf R.data)))
                    (first | exact three hY.out | (refine ⟨?_, ?_, ?_⟩ <;> assumption) | go_keep)
                    (first
                    | (go_at_call 34; refine (H34.out _ _ (by first | exact p0.out | exact p1.out)).mono ?_; rintro e w1 ⟨rfl, hb1⟩; have hY := hid (keep_three hX.out hb1); clear hb1 hX; have hX := hY)
                    | (go_at_call 35; refine (H35.out _ _ (by omega)).mono ?_; rintro e w1 ⟨rfl, hb1⟩; have hY := hid (keep_three hX.out hb1); clear hb1 hX; have hX := hY)
                    | fail)
                  have HN := hid (HD.out.next hY.out.below)
                  clear hY hX X0 c0 c1 c2 c19
                  go_wp2_with fail
                  go_roundg (m.ents.length - (k + 1))
                  case measure => omega
                  case rel => exact ⟨k + 1, V3, by omega, Nat.le_refl _, rfl, by go_num, HSn, HN⟩
                · have hlt' : ¬ (k : Int) < (m.ents.length : Int) := by omega
                  have HSn : Hid (S2 = strOf (p19 m)) := by show _ = _; rw [HK.out, HP.out, List.take_of_length_le (by omega)]
                  go_wp2_with fail
                  go_meet
                  exact ⟨S2, U' + 262144, rfl, by go_num, HSn, HUn, HD⟩
          case rest =>
          clear hBQ hBQ2 BQ
          obtain ⟨S'', U'', rfl, rfl, HS19, HU19, HW19⟩ := hcut
          clear HS18 HU18 HW18 c19 hU1 hUi
          have hU1 := sumT_lt m 19 (by omega)
          rw [← HU19.out] at hU1
          have hUi : (U'' : Int) < 1048576 := by omega
          have c20 := cell_blk HW19.out.box 20 _ rfl
          obtain ⟨BQ, hBQ⟩ : ∃ B : Bool, decide (0 < m.ints.length) = B := ⟨_, rfl⟩
          have hBQ2 : decide ((0 : Int) < (m.ints.length : Int)) = BQ := by rw [← hBQ]; simp
          go_upto_if 149 with fail
          go_cut [3, 4, 15] from 16 (fun s3 s4 s15 wx => ∃ (S : ByteArray) (U : Nat), s3 = .string S ∧ s4 = .int .i64 U ∧ Hid (S = strOf (p20 m)) ∧ Hid (U = sumT m 20) ∧ Hid (Boxed w wx (.cells #[.int .i64 m.kind, .int .i64 m.n0, .int .i64 m.n1, .int .i64 m.n2, .int .i64 m.n3, .int .i64 m.n4, .int .i64 m.n5, .int .i64 m.n6, .int .i64 m.n7, .int .i64 m.n8, .int .i64 m.n9, .int .i64 m.n10, .int .i64 m.n11, .int .i64 m.n12, .int .i64 m.n13, .int .i64 m.err, .string (strOf m.name), .string (strOf m.text), .slice ba m.bats.length bc, .slice ea m.ents.length ec, .slice ia m.ints.length ic] 27)))
          case first =>
            have hst := sumT_step m 19 (by omega)
            rw [← HU19.out, show (there m).getD 19 false = decide (0 < m.ints.length) from rfl] at hst
            cases BQ with
            | false =>
              have hb0 : m.ints.length = 0 := by simpa using hBQ
              have e0 : m.ints = [] := List.length_eq_zero_iff.1 hb0
              have HSn : Hid (S'' = strOf (p20 m)) := by show _ = _; rw [HS19.out]; simp [p20, putI, putN, e0, intsL]
              have HUn : Hid (U'' = sumT m 20) := by show _ = _; rw [hst, hb0]; simp [bitV]
              clear hst e0 hb0 hBQ hBQ2
              go_wp2_with fail
              go_meet
              exact ⟨S'', U'', rfl, rfl, HSn, HUn, HW19⟩
            | true =>
              have hq0 : 0 < m.ints.length := by simpa using hBQ
              have hb0 : ¬ m.ints.length = 0 := by omega
              have HUn : Hid (U'' + 524288 = sumT m 20) := by show _ = _; rw [hst, decide_eq_true (show 0 < m.ints.length by omega)]; simp [bitV]
              have pL : Hid (I64 (m.ints.length : Int)) := ⟨by omega, by omega⟩
              have z := (intL_length (m.ints.length : Int)).2
              have hne0 : (m.ints.length : Int) ≠ 0 := by omega
              obtain ⟨S1, g1', t1, a1⟩ := sfit (p19 m) (intL (m.ints.length : Int)) S'' HS19.out (by omega)
              have HS0 : Hid (S1 = strOf (p19 m ++ intL (m.ints.length : Int) ++ intsL (m.ints.take 0))) := by show _ = _; rw [g1']; simp [intsL]
              have HP : Hid (p20 m = p19 m ++ intL (m.ints.length : Int) ++ intsL m.ints) := by show _ = _; unfold p20 putI; rw [putN_pos hne0, List.append_assoc]
              clear hst hb0 g1' hne0 hBQ hBQ2 hq0
              go_wp2_with (go_at_call 34; refine (H34.out _ _ pL.out).mono ?_; rintro e w5 ⟨rfl, hb5⟩)
              have HW5 := hid (HW19.out.next hb5)
              clear hb5 HW19 c20
              go_loopg [3, 15] m.ints.length (fun kx s3 s15 wx => ∃ (k : Nat) (S : ByteArray), k ≤ m.ints.length ∧ m.ints.length - k ≤ kx ∧ s3 = .string S ∧ s15 = .int .i64 k ∧ Hid (S = strOf (p19 m ++ intL (m.ints.length : Int) ++ intsL (m.ints.take k))) ∧ Hid (Boxed w wx (.cells #[.int .i64 m.kind, .int .i64 m.n0, .int .i64 m.n1, .int .i64 m.n2, .int .i64 m.n3, .int .i64 m.n4, .int .i64 m.n5, .int .i64 m.n6, .int .i64 m.n7, .int .i64 m.n8, .int .i64 m.n9, .int .i64 m.n10, .int .i64 m.n11, .int .i64 m.n12, .int .i64 m.n13, .int .i64 m.err, .string (strOf m.name), .string (strOf m.text), .slice ba m.bats.length bc, .slice ea m.ents.length ec, .slice ia m.ints.length ic] 27)))
              case atStart => exact ⟨0, S1, by omega, by omega, rfl, rfl, HS0, HW5⟩
              case round =>
                clear HS0 HW5 hlt' hlt t1 a1
                obtain ⟨k, S2, hk, hkx, rfl, rfl, HK, HD⟩ := hrel
                have c20 := cell_blk HD.out.box 20 _ rfl
                by_cases hlt : k < m.ints.length
                · have hlt' : (k : Int) < (m.ints.length : Int) := by omega
                  have i0' : (0 : Int) ≤ (k : Int) := by omega
                  obtain ⟨g1, o1, h1, s0⟩ := (HH.out.ints.up HD.out.below).at k hlt
                  subst h1
                  have p0 := hid (HOK.out.ints _ (List.getElem_mem hlt))
                  have HTk := hid (intsL_take m.ints k hlt)
                  have zk := intsL_length (m.ints.take k)
                  rw [List.length_take, Nat.min_eq_left (by omega)] at zk
                  generalize m.ints[k] = R at *
                  have y0 := (intL_length R).2
                  obtain ⟨S3, g3, t3, a3⟩ := sfit (p19 m ++ intL (m.ints.length : Int) ++ intsL (m.ints.take k)) (intL R) S2 HK.out (by simp only [List.length_append]; omega)
                  have HSn : Hid (S3 = strOf (p19 m ++ intL (m.ints.length : Int) ++ intsL (m.ints.take (k + 1)))) := by show _ = _; rw [HTk.out, g3]; simp only [List.append_assoc]
                  clear g3 HTk zk y0
                  go_wp2_with (go_at_call 34; refine (H34.out _ _ p0.out).mono ?_; rintro e w6 ⟨rfl, hb6⟩)
                  go_roundg (m.ints.length - (k + 1))
                  case measure => omega
                  case rel => exact ⟨k + 1, S3, by omega, Nat.le_refl _, rfl, by go_num, HSn, HD.out.next hb6⟩
                · have hlt' : ¬ (k : Int) < (m.ints.length : Int) := by omega
                  have HSn : Hid (S2 = strOf (p20 m)) := by show _ = _; rw [HK.out, HP.out, List.take_of_length_le (by omega)]
                  go_wp2_with fail
                  go_meet
                  exact ⟨S2, U'' + 524288, rfl, by go_num, HSn, HUn, HD⟩
          case rest =>
          clear hBQ hBQ2 BQ
          obtain ⟨S3, U3, rfl, rfl, HS20, HU20, HW20⟩ := hcut
          clear HS19 HU19 HW19 c20 hU1 hUi
          have hU1 := sumT_lt m 20 (by omega)
          rw [← HU20.out] at hU1
          have hUi : (U3 : Int) < 1048576 := by omega
          have c0 := cell_blk HW20.out.box 0 _ rfl
          have pK := hid HOK.out.kind
          have pU : Hid (I64 (U3 : Int)) := ⟨by omega, by omega⟩
          have z0 := (intL_length m.kind).2
          have z1 := (intL_length (U3 : Int)).2
          obtain ⟨V1, v1, t1, a1⟩ := sfit (intL m.kind) (intL (U3 : Int)) _ rfl (by omega)
          have hs20 : S3.size = (p20 m).length := by rw [HS20.out, strOf_size]
          obtain ⟨V2, v2, t2, a2⟩ := sfit (intL m.kind ++ intL (U3 : Int)) (p20 m) V1 v1 (by simp only [List.length_append]; omega)
          rw [← HS20.out] at t2 a2
          have HF : Hid (V2 = strOf (bodyM m)) := by
            show _ = _
            rw [v2, p20_eq, HU20.out, sumT_all]
            simp [bodyM, intsL]
          clear v1 v2 z0 z1
          go_wp2_with fail
          refine (H34.out _ _ pK.out).mono ?_
          rintro e w6 ⟨rfl, hb6⟩
          go_wp2_with fail
          refine (H34.out _ _ pU.out).mono ?_
          rintro e w7 ⟨rfl, hb7⟩
          go_wp2
          go_ret
          exact ⟨by rw [HF.out]; rfl, ((HW20.out.next hb6).next hb7).below⟩
end Go.Proofs.YtocdlaoklagdoaaDoor
