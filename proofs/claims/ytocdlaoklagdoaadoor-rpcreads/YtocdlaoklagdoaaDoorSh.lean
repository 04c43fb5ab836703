/- The chapter's examples. -/
import Derived.Test.YtocdlaoklagdoaaDoorSa
namespace Go.Proofs.YtocdlaoklagdoaaDoor
open Go.RowKit Go.Maps
set_option linter.unusedSimpArgs false
set_option linter.unusedVariables false
set_option maxRecDepth 100000

def m1 : Msg := ⟨1, 0, 0, 0, 0, 0, 0, 0, 0, 0, 2, 0, 0, 0, 0, 0, [], [], [], [], []⟩
def m29 : Msg := ⟨29, 0, 0, 0, 0, 0, 0, 0, 0, 0, 0, 0, 0, 0, 0, 0, [], [], [], [], []⟩
def mq : Msg := ⟨7, 1, 2, 7, 3, 9, 0, 0, 0, 0, 0, 0, 0, 0, 0, 0, [], [], [], [], []⟩
def s12 : List UInt8 := (encodeL m1).1
theorem e1 : encodeL m1 = (s12, 0) := by
  have h : (encodeL m1).2 = 0 := by decide +kernel
  rw [← h]
  rfl
theorem e29 : encodeL m29 = ([], 1) := by decide +kernel
theorem s12_len : s12.length = 12 := by decide +kernel
theorem s12_drop : s12.drop 8 = [2, 128, 8, 4] := by decide +kernel
theorem d1_ok : (decodeL s12).2 = 0 ∧ (decodeL s12).1.kind = 1 ∧ (nums (decodeL s12).1).getD 9 0 = 2 := by decide +kernel
theorem d2_no : (decodeL (s12 ++ [120])).2 = 4 := by decide +kernel
theorem plain_ok {m : Msg} (hk : I64 m.kind) (hn : ∀ n ∈ nums m, I64 n) (he : I64 m.err) (h1 : m.name = []) (h2 : m.text = []) (h3 : m.bats = []) (h4 : m.ents = []) (h5 : m.ints = []) : m.ok := by
  refine ⟨hk, hn, he, ?_, ?_, ?_, ?_, ?_, ?_, ?_, ?_⟩
  · rw [h1]; simp
  · rw [h2]; simp
  · rw [h3]; simp
  · rw [h3]; simp
  · rw [h4]; simp
  · rw [h4]; simp
  · rw [h5]; simp
  · rw [h5]; simp
theorem small_ok (n : Int) (h : 0 ≤ n ∧ n ≤ 100) : I64 n := ⟨by omega, by omega⟩
theorem here_none (w : World) {m : Msg} (h3 : m.bats = []) (h4 : m.ents = []) (h5 : m.ints = []) : Here w m none none none := ⟨.inl h3, .inl h4, .inl h5⟩
theorem m1_ok : m1.ok := plain_ok (small_ok _ (by decide)) (fun n hn => small_ok n (by simp [nums, m1] at hn; omega)) (small_ok _ (by decide)) rfl rfl rfl rfl rfl
theorem m29_ok : m29.ok := plain_ok (small_ok _ (by decide)) (fun n hn => small_ok n (by simp [nums, m29] at hn; omega)) (small_ok _ (by decide)) rfl rfl rfl rfl rfl
theorem ansq : ansV mq 15 = #[.int .i64 8, .int .i64 2, .int .i64 1, .int .i64 7, .int .i64 3, .int .i64 0, .int .i64 0, .int .i64 0, .int .i64 0, .int .i64 0, .int .i64 0, .int .i64 0, .int .i64 0, .int .i64 0, .int .i64 0, .int .i64 15, .string ⟨#[]⟩, .string ⟨#[]⟩, .slice none 0 0, .slice none 0 0, .slice none 0 0] := rfl

set_option maxHeartbeats 3200000 in
theorem shown_any {w : World} (hT : Tab w) : Calls Tryd.prog 8 #[] w fun e w' => e = .returned (.bool true) ∧ Below w.heap.size w w' := by
  have hw2 := hT.2
  have HT := hid hT
  clear hT
  have HE1 : Hid (∀ W, Below w.heap.size w W → Calls Tryd.prog 9 #[.agg #[.int .i64 1, .int .i64 0, .int .i64 0, .int .i64 0, .int .i64 0, .int .i64 0, .int .i64 0, .int .i64 0, .int .i64 0, .int .i64 0, .int .i64 2, .int .i64 0, .int .i64 0, .int .i64 0, .int .i64 0, .int .i64 0, .string ⟨#[]⟩, .string ⟨#[]⟩, .slice none 0 0, .slice none 0 0, .slice none 0 0]] W fun e w' => e = .returned (.tuple #[.string (strOf s12), .int .i64 0]) ∧ Below W.heap.size W w') := fun W h => by
    have := encode_any (w := W) m1 none 0 none 0 none 0 m1_ok (here_none W rfl rfl rfl) (HT.out.under h hw2)
    rw [e1] at this
    exact this
  have HE2 : Hid (∀ W, Below w.heap.size w W → Calls Tryd.prog 9 #[.agg #[.int .i64 29, .int .i64 0, .int .i64 0, .int .i64 0, .int .i64 0, .int .i64 0, .int .i64 0, .int .i64 0, .int .i64 0, .int .i64 0, .int .i64 0, .int .i64 0, .int .i64 0, .int .i64 0, .int .i64 0, .int .i64 0, .string ⟨#[]⟩, .string ⟨#[]⟩, .slice none 0 0, .slice none 0 0, .slice none 0 0]] W fun e w' => e = .returned (.tuple #[.string ⟨#[]⟩, .int .i64 1]) ∧ Below W.heap.size W w') := fun W h => by
    have := encode_any (w := W) m29 none 0 none 0 none 0 m29_ok (here_none W rfl rfl rfl) (HT.out.under h hw2)
    rw [e29] at this
    exact this
  have HD1 := hid (fun W (h : Below w.heap.size w W) => decode_any (w := W) s12 (by rw [s12_len]; unfold maxLen; decide) (HT.out.under h hw2))
  have HD2 := hid (fun W (h : Below w.heap.size w W) => decode_any (w := W) (s12 ++ [120]) (by rw [List.length_append, s12_len]; unfold maxLen; decide) (HT.out.under h hw2))
  have HA : Hid (∀ W, Calls Tryd.prog 18 #[.agg #[.int .i64 7, .int .i64 1, .int .i64 2, .int .i64 7, .int .i64 3, .int .i64 9, .int .i64 0, .int .i64 0, .int .i64 0, .int .i64 0, .int .i64 0, .int .i64 0, .int .i64 0, .int .i64 0, .int .i64 0, .int .i64 0, .string ⟨#[]⟩, .string ⟨#[]⟩, .slice none 0 0, .slice none 0 0, .slice none 0 0], .int .i64 15] W fun e w' => e = .returned (.agg #[.int .i64 8, .int .i64 2, .int .i64 1, .int .i64 7, .int .i64 3, .int .i64 0, .int .i64 0, .int .i64 0, .int .i64 0, .int .i64 0, .int .i64 0, .int .i64 0, .int .i64 0, .int .i64 0, .int .i64 0, .int .i64 15, .string ⟨#[]⟩, .string ⟨#[]⟩, .slice none 0 0, .slice none 0 0, .slice none 0 0]) ∧ Below W.heap.size W w') := fun W => by
    have := answer_any mq none 0 none 0 none 0 15 (small_ok _ (by decide)) W
    rw [ansq] at this
    exact this
  have HS := hid (fun W => same_none 8 2 1 7 3 0 0 0 0 0 0 0 0 0 0 15 ⟨#[]⟩ ⟨#[]⟩ W)
  obtain ⟨k1, k2, k3⟩ := d1_ok
  have k4 := d2_no
  have zx : strOf s12 ++ (⟨#[120]⟩ : ByteArray) = strOf (s12 ++ [120]) := strOf_append s12 [120]
  have z12 : (strOf s12).size = 12 := by rw [strOf_size, s12_len]
  have zd : (strOf s12).extract 8 12 = ⟨#[2, 128, 8, 4]⟩ := by
    have := extract_drop s12 8
    rw [s12_len, s12_drop] at this
    exact this
  generalize decodeL (s12 ++ [120]) = D2 at *
  generalize decodeL s12 = D1 at *
  obtain ⟨x1, y1⟩ := D1
  obtain ⟨x2, y2⟩ := D2
  simp only at *
  subst k1
  subst k4
  have HC0 : Hid (∀ a b c : Value, (cells21 x1.kind (nums x1) x1.err x1.name x1.text a b c)[0]? = some (.int .i64 1)) := fun a b c => by rw [k2]; rfl
  have HC10 : Hid (∀ a b c : Value, (cells21 x1.kind (nums x1) x1.err x1.name x1.text a b c)[10]? = some (.int .i64 2)) := fun a b c => by show some (Value.int .i64 ((nums x1).getD 9 0)) = _; rw [k3]
  clear k2 k3
  go_enter Tryd.func8, Tryd.ntmps8
  go_wp2_with fail
  refine (HE1.out _ (Below.refl _ _)).mono ?_
  rintro e w1 ⟨rfl, hb1⟩
  have B1 := hid hb1
  clear hb1
  go_wp2_with fail
  refine (HD1.out _ B1.out).mono ?_
  rintro e w2 ⟨ba, bc, ea, ec, ia, ic, rfl, hb2, _, _, _⟩
  have B2 := hid (B1.out.trans (hb2.mono B1.out.size))
  have hst : Hid (((w2.alloc (.cells #[.int .i64 0, .int .i64 0, .int .i64 0, .int .i64 0, .int .i64 0, .int .i64 0, .int .i64 0, .int .i64 0, .int .i64 0, .int .i64 0, .int .i64 0, .int .i64 0, .int .i64 0, .int .i64 0, .int .i64 0, .int .i64 0, .string ⟨#[]⟩, .string ⟨#[]⟩, .slice none 0 0, .slice none 0 0, .slice none 0 0] 27)).setRow w2.heap.size (cells21 x1.kind (nums x1) x1.err x1.name x1.text (.slice ba x1.bats.length bc) (.slice ea x1.ents.length ec) (.slice ia x1.ints.length ic))) = (w2.alloc (.cells (cells21 x1.kind (nums x1) x1.err x1.name x1.text (.slice ba x1.bats.length bc) (.slice ea x1.ents.length ec) (.slice ia x1.ints.length ic)) 27))) := World.setRow_alloc_new _ _ _ _
  have C1 : Hid ((cells21 x1.kind (nums x1) x1.err x1.name x1.text (.slice ba x1.bats.length bc) (.slice ea x1.ents.length ec) (.slice ia x1.ints.length ic)).all (·.oneCell') = true) := cells21_one _ _ _ _ _ _ _ _ rfl rfl rfl
  have NX := hid (heap_alloc_new w2 (.cells #[.int .i64 0, .int .i64 0, .int .i64 0, .int .i64 0, .int .i64 0, .int .i64 0, .int .i64 0, .int .i64 0, .int .i64 0, .int .i64 0, .int .i64 0, .int .i64 0, .int .i64 0, .int .i64 0, .int .i64 0, .int .i64 0, .string ⟨#[]⟩, .string ⟨#[]⟩, .slice none 0 0, .slice none 0 0, .slice none 0 0] 27))
  have B3 := hid (B2.out.alloc B2.out.size (.cells (cells21 x1.kind (nums x1) x1.err x1.name x1.text (.slice ba x1.bats.length bc) (.slice ea x1.ents.length ec) (.slice ia x1.ints.length ic)) 27))
  have BX := hid (Boxed.laid w2 (.cells (cells21 x1.kind (nums x1) x1.err x1.name x1.text (.slice ba x1.bats.length bc) (.slice ea x1.ents.length ec) (.slice ia x1.ints.length ic)) 27))
  clear hb2 B1
  go_wp2_with (first | (refine wpList_store_row rfl 27 _ _ rfl w2.heap.size (cells21 x1.kind (nums x1) x1.err x1.name x1.text (.slice ba x1.bats.length bc) (.slice ea x1.ents.length ec) (.slice ia x1.ints.length ic)) rfl rfl 27 _ NX.out size27 rfl C1.out ?_; rw [hst.out]) | fail)
  refine (HE2.out _ B3.out).mono ?_
  rintro e w4 ⟨rfl, hb4⟩
  have B4 := hid (B3.out.trans (hb4.mono B3.out.size))
  have BX4 := hid (BX.out.next hb4)
  clear hb4 hst C1 NX B3 BX
  go_wp2_with fail
  refine (HD2.out _ B4.out).mono ?_
  rintro e w5 ⟨ba2, bc2, ea2, ec2, ia2, ic2, rfl, hb5, _, _, _⟩
  have B5 := hid (B4.out.trans (hb5.mono B4.out.size))
  have BX5 := hid (BX4.out.next hb5)
  have hst : Hid (((w5.alloc (.cells #[.int .i64 0, .int .i64 0, .int .i64 0, .int .i64 0, .int .i64 0, .int .i64 0, .int .i64 0, .int .i64 0, .int .i64 0, .int .i64 0, .int .i64 0, .int .i64 0, .int .i64 0, .int .i64 0, .int .i64 0, .int .i64 0, .string ⟨#[]⟩, .string ⟨#[]⟩, .slice none 0 0, .slice none 0 0, .slice none 0 0] 27)).setRow w5.heap.size (cells21 x2.kind (nums x2) x2.err x2.name x2.text (.slice ba2 x2.bats.length bc2) (.slice ea2 x2.ents.length ec2) (.slice ia2 x2.ints.length ic2))) = (w5.alloc (.cells (cells21 x2.kind (nums x2) x2.err x2.name x2.text (.slice ba2 x2.bats.length bc2) (.slice ea2 x2.ents.length ec2) (.slice ia2 x2.ints.length ic2)) 27))) := World.setRow_alloc_new _ _ _ _
  have C1 : Hid ((cells21 x2.kind (nums x2) x2.err x2.name x2.text (.slice ba2 x2.bats.length bc2) (.slice ea2 x2.ents.length ec2) (.slice ia2 x2.ints.length ic2)).all (·.oneCell') = true) := cells21_one _ _ _ _ _ _ _ _ rfl rfl rfl
  have NX := hid (heap_alloc_new w5 (.cells #[.int .i64 0, .int .i64 0, .int .i64 0, .int .i64 0, .int .i64 0, .int .i64 0, .int .i64 0, .int .i64 0, .int .i64 0, .int .i64 0, .int .i64 0, .int .i64 0, .int .i64 0, .int .i64 0, .int .i64 0, .int .i64 0, .string ⟨#[]⟩, .string ⟨#[]⟩, .slice none 0 0, .slice none 0 0, .slice none 0 0] 27))
  have B6 := hid (B5.out.alloc B5.out.size (.cells (cells21 x2.kind (nums x2) x2.err x2.name x2.text (.slice ba2 x2.bats.length bc2) (.slice ea2 x2.ents.length ec2) (.slice ia2 x2.ints.length ic2)) 27))
  have BX6 := hid (BX5.out.next ((Below.refl _ _).alloc (Nat.le_refl _) (.cells (cells21 x2.kind (nums x2) x2.err x2.name x2.text (.slice ba2 x2.bats.length bc2) (.slice ea2 x2.ents.length ec2) (.slice ia2 x2.ints.length ic2)) 27)))
  clear hb5 B4 BX4
  go_wp2_with (first | (refine wpList_store_row rfl 27 _ _ rfl w5.heap.size (cells21 x2.kind (nums x2) x2.err x2.name x2.text (.slice ba2 x2.bats.length bc2) (.slice ea2 x2.ents.length ec2) (.slice ia2 x2.ints.length ic2)) rfl rfl 27 _ NX.out size27 rfl C1.out ?_; rw [hst.out]) | fail)
  refine (HA.out _).mono ?_
  rintro e w7 ⟨rfl, hb7⟩
  have B7 := hid (B6.out.trans (hb7.mono B6.out.size))
  have BX7 := hid (BX6.out.next hb7)
  clear hb7 hst C1 NX B6 BX6 B5 BX5
  have hst : Hid (((w7.alloc (.cells #[.int .i64 0, .int .i64 0, .int .i64 0, .int .i64 0, .int .i64 0, .int .i64 0, .int .i64 0, .int .i64 0, .int .i64 0, .int .i64 0, .int .i64 0, .int .i64 0, .int .i64 0, .int .i64 0, .int .i64 0, .int .i64 0, .string ⟨#[]⟩, .string ⟨#[]⟩, .slice none 0 0, .slice none 0 0, .slice none 0 0] 27)).setRow w7.heap.size #[.int .i64 8, .int .i64 2, .int .i64 1, .int .i64 7, .int .i64 3, .int .i64 0, .int .i64 0, .int .i64 0, .int .i64 0, .int .i64 0, .int .i64 0, .int .i64 0, .int .i64 0, .int .i64 0, .int .i64 0, .int .i64 15, .string ⟨#[]⟩, .string ⟨#[]⟩, .slice none 0 0, .slice none 0 0, .slice none 0 0]) = (w7.alloc (.cells #[.int .i64 8, .int .i64 2, .int .i64 1, .int .i64 7, .int .i64 3, .int .i64 0, .int .i64 0, .int .i64 0, .int .i64 0, .int .i64 0, .int .i64 0, .int .i64 0, .int .i64 0, .int .i64 0, .int .i64 0, .int .i64 15, .string ⟨#[]⟩, .string ⟨#[]⟩, .slice none 0 0, .slice none 0 0, .slice none 0 0] 27))) := World.setRow_alloc_new _ _ _ _
  have NX := hid (heap_alloc_new w7 (.cells #[.int .i64 0, .int .i64 0, .int .i64 0, .int .i64 0, .int .i64 0, .int .i64 0, .int .i64 0, .int .i64 0, .int .i64 0, .int .i64 0, .int .i64 0, .int .i64 0, .int .i64 0, .int .i64 0, .int .i64 0, .int .i64 0, .string ⟨#[]⟩, .string ⟨#[]⟩, .slice none 0 0, .slice none 0 0, .slice none 0 0] 27))
  have NY := hid (heap_alloc_new w7 (.cells #[.int .i64 8, .int .i64 2, .int .i64 1, .int .i64 7, .int .i64 3, .int .i64 0, .int .i64 0, .int .i64 0, .int .i64 0, .int .i64 0, .int .i64 0, .int .i64 0, .int .i64 0, .int .i64 0, .int .i64 0, .int .i64 15, .string ⟨#[]⟩, .string ⟨#[]⟩, .slice none 0 0, .slice none 0 0, .slice none 0 0] 27))
  have B8 := hid (B7.out.alloc B7.out.size (.cells #[.int .i64 8, .int .i64 2, .int .i64 1, .int .i64 7, .int .i64 3, .int .i64 0, .int .i64 0, .int .i64 0, .int .i64 0, .int .i64 0, .int .i64 0, .int .i64 0, .int .i64 0, .int .i64 0, .int .i64 0, .int .i64 15, .string ⟨#[]⟩, .string ⟨#[]⟩, .slice none 0 0, .slice none 0 0, .slice none 0 0] 27))
  have BX8 := hid (BX7.out.next ((Below.refl _ _).alloc (Nat.le_refl _) (.cells #[.int .i64 8, .int .i64 2, .int .i64 1, .int .i64 7, .int .i64 3, .int .i64 0, .int .i64 0, .int .i64 0, .int .i64 0, .int .i64 0, .int .i64 0, .int .i64 0, .int .i64 0, .int .i64 0, .int .i64 0, .int .i64 15, .string ⟨#[]⟩, .string ⟨#[]⟩, .slice none 0 0, .slice none 0 0, .slice none 0 0] 27)))
  go_wp2_with (first | (refine wpList_store_row rfl 27 _ _ rfl w7.heap.size #[.int .i64 8, .int .i64 2, .int .i64 1, .int .i64 7, .int .i64 3, .int .i64 0, .int .i64 0, .int .i64 0, .int .i64 0, .int .i64 0, .int .i64 0, .int .i64 0, .int .i64 0, .int .i64 0, .int .i64 0, .int .i64 15, .string ⟨#[]⟩, .string ⟨#[]⟩, .slice none 0 0, .slice none 0 0, .slice none 0 0] rfl rfl 27 _ NX.out size27 rfl (by simp [Value.oneCell']) ?_; rw [hst.out]) | (refine wpList_load_row rfl 27 _ rfl w7.heap.size rfl 27 _ (0, 0) _ NY.out Tryd.underlying27 rfl size27 ?_) | fail)
  refine (HS.out _).mono ?_
  rintro e w9 ⟨rfl, hb9⟩
  have B9 := hid (B8.out.trans (hb9.mono B8.out.size))
  have c0 := cell_blk (BX8.out.next hb9).box 0 _ (HC0.out _ _ _)
  have c10 := cell_blk (BX8.out.next hb9).box 10 _ (HC10.out _ _ _)
  clear hb9 hst NX NY B8 BX8 B7 BX7
  go_wp2
  go_ret
  exact ⟨rfl, B9.out⟩
end Go.Proofs.YtocdlaoklagdoaaDoor
