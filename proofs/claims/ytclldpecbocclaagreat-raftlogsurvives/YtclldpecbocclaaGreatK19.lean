/- write: entries into the file. -/
import Derived.Test.YtclldpecbocclaaGreatK18
namespace Go.Proofs.YtclldpecbocclaaGreat
open Go.RowKit Go.Maps
set_option maxRecDepth 100000
set_option linter.unusedSimpArgs false
set_option linter.unusedVariables false

/-- What write answers and leaves. -/
def WrPost (S : Nat → Prop) (w : World) (a size : Nat) (s s' : LSt) (full : Prop) (e : Ending) (w' : World) : Prop :=
  (full ∧ e = .returned (.int .i64 7) ∧ AfterA S w w' a size s.fs) ∨ (¬ full ∧ e = .returned (.int .i64 0) ∧ AfterA S w w' a size s'.fs)
/-- The files on the way. -/
theorem files_way {s : LSt} (hk : LOk s) {n : Nat} (hn : n ≤ s.list.length) {m : List Et} {size : Nat} (htot : totalA s.fs ≤ size) (hfull : ¬ (size - totalA s.fs) + (logB (s.list.drop n)).length < (logB m).length) :
    (0 < (logB (s.list.drop n)).length → cutE s.fs nL (((lB s).getD []).length - (logB (s.list.drop n)).length : Nat) = 0 ∧ cutL s.fs nL (((lB s).getD []).length - (logB (s.list.drop n)).length : Nat) = fsOf (some (logB (s.list.take n))) (sB s) (tB s)) ∧
    (∃ F1, ((0 < (logB (s.list.drop n)).length ∧ F1 = fsOf (some (logB (s.list.take n))) (sB s) (tB s)) ∨ (¬ 0 < (logB (s.list.drop n)).length ∧ F1 = s.fs)) ∧ appE size F1 nL (strOf (logB m)) = 0 ∧ synE (appL size F1 nL (strOf (logB m))) nL = 0 ∧ synL (appL size F1 nL (strOf (logB m))) nL = fsOf (some (logB (s.list.take n ++ m))) (sB s) (tB s)) ∧ (logB (s.list.drop n)).length ≤ ((lB s).getD []).length ∧ (n = 0 → ((lB s).getD []).length = (logB (s.list.drop n)).length) := by
  have hLb : (lB s).getD [] = logB s.list := by
    unfold lB
    cases hl : s.hl with
    | false => rw [hk.hl hl]; rfl
    | true => rfl
  have hsp := logB_split s.list n
  have hlen : (logB s.list).length = (logB (s.list.take n)).length + (logB (s.list.drop n)).length := by rw [hsp, List.length_append]
  have htk := logB_take s.list n
  have htt := total_fs (lB s) (sB s) (tB s)
  have hfs : s.fs = fsOf (lB s) (sB s) (tB s) := rfl
  rw [hLb] at htt
  rw [hfs] at htot hfull
  refine ⟨fun hG => ?_, ?_, by rw [hLb]; omega, fun h0 => by subst h0; rw [hLb, List.drop_zero]⟩
  · have hsome : (lB s).isSome = true := by
      unfold lB
      cases hl : s.hl with
      | false => rw [hk.hl hl] at hG; simp [logB] at hG
      | true => rfl
    have h := (cut_app_syn size (lB s) (sB s) (tB s) ((logB s.list).length - (logB (s.list.drop n)).length) [] (by rw [hLb]; omega) (by rw [hLb]; simp; omega)).1 hsome
    rw [hLb] at h ⊢
    rw [htk] at h
    exact h
  · by_cases hG : 0 < (logB (s.list.drop n)).length
    · have ht2 := total_fs (some (logB (s.list.take n))) (sB s) (tB s)
      simp only [Option.getD_some] at ht2
      have h := (cut_app_syn size (some (logB (s.list.take n))) (sB s) (tB s) (logB (s.list.take n)).length (logB m) (by simp) (by simp only [Option.getD_some]; omega)).2 rfl
      simp only [Option.getD_some] at h
      rw [← logB_append] at h
      exact ⟨_, .inl ⟨hG, rfl⟩, h⟩
    · have h := (cut_app_syn size (lB s) (sB s) (tB s) (logB s.list).length (logB m) (by rw [hLb]; omega) (by rw [hLb]; omega)).2 (by rw [hLb])
      rw [hLb, ← logB_append] at h
      have hd : s.list.take n = s.list := by
        have h8 := logB_length_ge (s.list.drop n)
        have : (s.list.drop n).length = 0 := by omega
        rw [List.length_drop] at this
        exact List.take_of_length_le (by omega)
      rw [hd]
      exact ⟨_, .inr ⟨hG, rfl⟩, h⟩
theorem AfterA.step {S S' : Nat → Prop} {w W w' : World} {a size : Nat} {F' : List AF} (g2 : ∀ k, S' k → S k ∨ w.heap.size ≤ k) (g3 : ∀ k, S k → S' k) (g4 : Keeps S w W) (h : AfterA S' W w' a size F') : AfterA S w w' a size F' := by
  obtain ⟨S'', k1, k2, k3, k4⟩ := h
  have hs := g4.size
  refine ⟨S'', k1, fun x hx => ?_, fun x hx => k3 x (g3 x hx), g4.trans k4 g2⟩
  rcases k2 x hx with h | h
  · exact g2 x h
  · exact .inr (by omega)
set_option maxHeartbeats 6400000 in
theorem write_any {w : World} {U S q a v s size} (hM : LogM w U q a v s) (hb : LB s) (hk : LOk s) (hD : DiskA w S a size s.fs) (hUS : ∀ k, S k → ¬ U k) {g o c : Nat} {x : Et} {r : List Et} (hm : EAt w (some ⟨g, o, none⟩) (x :: r)) (hml : (x :: r).length ≤ 1000) (hmr : ∀ y ∈ x :: r, I64 y.t ∧ I64 y.i ∧ y.d.length ≤ 2048) (n : Nat) (hn : n ≤ s.list.length) (hx : x.i = s.snap.i + 1 + (n : Int)) (s' : LSt) (hs' : s'.fs = fsOf (some (logB (s.list.take n ++ (x :: r)))) (sB s) (tB s)) :
    Calls Tryz.prog 25 #[.pointer (some ⟨q, 0, none⟩), .slice (some ⟨g, o, none⟩) (x :: r).length c] w fun e w' => WrPost S w a size s s' ((size - totalA s.fs) + (logB (s.list.drop n)).length < (logB (x :: r)).length) e w' := by
  have hfacts := hD.facts
  have HW := hid (fun hfull => files_way hk hn (m := x :: r) (size := size) hfacts.1 hfull)
  have HW0 := hid (files_way (s := s) hk hn (m := []) (size := size) hfacts.1 (by simp [logB]))
  have c5 := hM.c.c5
  have c7 := hM.c.c7
  obtain ⟨oa, cap, rfl, hcap, hcm, hnn, hoa⟩ := hM.ents.shape
  obtain ⟨_, r1, _⟩ := hm.at_ 0 x rfl
  simp only [Nat.zero_mul, Nat.add_zero] at r1
  have hglt : g < w.heap.size := World.block_lt_of_cell? w _ r1
  have HK : Hid (∀ W, Below w.heap.size w W → W.cell? ⟨q, 5, none⟩ = some (.slice oa s.list.length cap) ∧ W.cell? ⟨q, 7, none⟩ = some (.string ⟨#[114]⟩) ∧ W.cell? ⟨g, o + 1, none⟩ = some (.int .i64 x.i)) := fun W hW => ⟨(hM.under hW).c.c5, (hM.under hW).c.c7, by rw [World.cell?_of_block (a := ⟨g, o + 1, none⟩) (hW.block g hglt)]; exact r1⟩
  have H24 : Hid (∀ W, Below w.heap.size w W → Calls Tryz.prog 28 #[.pointer (some ⟨q, 0, none⟩)] W fun e w' => e = .returned (.pointer (some ⟨a, 0, none⟩)) ∧ W = w') := fun W hW => ldisk_any (hM.under hW)
  have H49 : Hid (∀ W, Below w.heap.size w W → Calls Tryz.prog 44 #[.slice (some ⟨g, o, none⟩) (x :: r).length c] W fun e w' => e = .returned (.string (strOf (logB (x :: r)))) ∧ Below w.heap.size w w') := fun W hW => (logText_any (hm.under hW) (by omega) hmr).mono fun e w' ⟨e1, e2⟩ => ⟨e1, hW.trans (e2.mono hW.size)⟩
  have H49b : Hid (∀ W z, Below w.heap.size w W → (n < s.list.length → ∃ g0, oa = some ⟨g0, 0, none⟩ ∧ z = some ⟨g0, n * 3, none⟩) → Calls Tryz.prog 44 #[.slice z (s.list.length - n) (cap - n)] W fun e w' => e = .returned (.string (strOf (logB (s.list.drop n)))) ∧ Below w.heap.size w w') := fun W z hW hz => by
    have hE : EAt W z (s.list.drop n) := fun h0 => by
      obtain ⟨g0, rfl, rfl⟩ := hz (by rw [List.length_drop] at h0; omega)
      have h1 := ((hM.under hW).ents.at).drop n
      rw [Nat.zero_add] at h1
      exact h1 h0
    have h2 := logText_any hE (cap := cap - n) (by rw [List.length_drop]; have := hb.len; omega) (fun y hy => by
      have := hk.rng y (List.mem_of_mem_drop hy)
      exact ⟨⟨by omega, by omega⟩, ⟨by omega, by omega⟩, this.2.2⟩)
    rw [List.length_drop] at h2
    exact h2.mono fun e w' ⟨e1, e2⟩ => ⟨e1, hW.trans (e2.mono hW.size)⟩
  have H42 : Hid (∀ W, Below w.heap.size w W → Calls Tryz.prog 45 #[.pointer (some ⟨a, 0, none⟩), .string nL] W fun e w' => e = .returned (.int .i64 (((lB s).getD []).length : Int)) ∧ w' = W) := fun W hW => by
    have := sizeA (hD.under hW) nL (by decide)
    have e : abytes s.fs nL.data.toList = (lB s).getD [] := bytes_L _ _ _
    rw [e] at this
    exact this
  have q14 : Hid (∀ W n, Below w.heap.size w W → Calls Tryz.prog 20 #[.pointer (some ⟨q, 0, none⟩)] (W.drewN n) fun e w' => e = .returned (.int .i64 (s.snap.i + 1)) ∧ w' = W.drewN n) := fun W n hW => (first_any (hM.under (below_drewN hW n)) hb).mono fun e w' ⟨e1, e2⟩ => ⟨e1, e2.symm⟩
  have H41 : Hid (∀ W, Below w.heap.size w W → Calls Tryz.prog 46 #[.pointer (some ⟨a, 0, none⟩)] W fun e w' => e = .returned (.int .i64 ((size - totalA s.fs : Nat) : Int)) ∧ Below w.heap.size w w') := fun W hW => (freeA (hD.under hW)).mono fun e w' ⟨e1, e2⟩ => ⟨e1, hW.trans (e2.mono hW.size)⟩
  have H50 : Hid (∀ W (i : Int), Below w.heap.size w W → Calls Tryz.prog 47 #[.pointer (some ⟨a, 0, none⟩), .string nL, .int .i64 i] W fun e w' => e = .returned (.int .i64 (cutE s.fs nL i : Int)) ∧ Hid (AfterA S w w' a size (cutL s.fs nL i))) := fun W i hW => (cutA (hD.under hW) nL (by decide) i).mono fun e w' ⟨e1, e2⟩ => ⟨e1, AfterA.begun hW e2⟩
  have hTl : (logB (x :: r)).length ≤ 3000000 := by
    have := logB_length_le (x :: r) 2048 (fun y hy => (hmr y hy).2.2)
    have h2 : (x :: r).length * (38 + 2048) ≤ 1000 * 2086 := Nat.mul_le_mul_right _ hml
    omega
  have hTs : (strOf (logB (x :: r))).size ≤ maxLen := by rw [strOf_size]; unfold maxLen; omega
  have H51 : Hid (∀ W F, Hid (AfterA S w W a size F) → Calls Tryz.prog 48 #[.pointer (some ⟨a, 0, none⟩), .string nL, .string (strOf (logB (x :: r)))] W fun e w' => e = .returned (.int .i64 (appE size F nL (strOf (logB (x :: r))) : Int)) ∧ Hid (AfterA S w w' a size (appL size F nL (strOf (logB (x :: r)))))) := fun W F hA => by
    obtain ⟨S', g1, g2, g3, g4⟩ := id hA.out
    exact (appendA g1 nL (strOf (logB (x :: r))) (by decide) hTs).mono fun e w' ⟨e1, e2⟩ => ⟨e1, AfterA.step g2 g3 g4 e2⟩
  have H39 : Hid (∀ W F, Hid (AfterA S w W a size F) → Calls Tryz.prog 43 #[.pointer (some ⟨a, 0, none⟩), .string nL] W fun e w' => e = .returned (.int .i64 (synE F nL : Int)) ∧ Hid (AfterA S w w' a size (synL F nL))) := fun W F hA => by
    obtain ⟨S', g1, g2, g3, g4⟩ := id hA.out
    exact (syncA g1 nL (by decide)).mono fun e w' ⟨e1, e2⟩ => ⟨e1, AfterA.step g2 g3 g4 e2⟩
  have HAS : Hid (∀ W, Below w.heap.size w W → Hid (AfterA S w W a size s.fs)) := fun W hW => AfterA.same hD hW
  have H49c : Hid (∀ W z cc, Below w.heap.size w W → s.list.length ≤ n → Calls Tryz.prog 44 #[.slice z 0 cc] W fun e w' => e = .returned (.string (strOf (logB (s.list.drop n)))) ∧ Below w.heap.size w w') := fun W z cc hW hz => by
    rw [List.drop_of_length_le hz]
    exact (logText_any (l := []) (fun h0 => by simp at h0) (by simp) (by simp)).mono fun e w' ⟨e1, e2⟩ => ⟨e1, hW.trans (e2.mono hW.size)⟩
  have i0 := hb.i0
  have i1 := hb.i1
  have hlen := hb.len
  have hw : IntKind.i64.wrap (x.i - (s.snap.i + 1)) = (n : Int) := by rw [hx, show s.snap.i + 1 + (n : Int) - (s.snap.i + 1) = (n : Int) by omega]; exact IntWalk.i64_in _ ⟨by omega, by omega⟩
  have hpos : (0 : Int) < (((x :: r).length : Nat) : Int) := by rw [List.length_cons]; omega
  have hpos2 : 0 < (x :: r).length := by simp
  have hnL : (⟨#[114]⟩ ++ ⟨#[46, 108, 111, 103]⟩ : ByteArray) = nL := by decide
  have hGL : (logB (s.list.drop n)).length ≤ ((lB s).getD []).length := HW0.out.2.2.1
  have hG0 : n = 0 → ((lB s).getD []).length = (logB (s.list.drop n)).length := HW0.out.2.2.2
  have hLt : ((lB s).getD []).length ≤ 16777216 := by
    have h1 := total_fs (lB s) (sB s) (tB s)
    have h2 := hfacts.2.1
    have h3 := hfacts.1
    have h4 : totalA s.fs = totalA (fsOf (lB s) (sB s) (tB s)) := rfl
    omega
  have hFt : size - totalA s.fs ≤ 16777216 := by have := hfacts.2.1; omega
  have HSf := hid hs'
  have hszT := strOf_size (logB (x :: r))
  have hszG := strOf_size (logB (s.list.drop n))
  clear hM hb hk hD hUS hm hx hs' hfacts hmr hml hnn HW0 hglt hTs
  generalize hGG : (logB (s.list.drop n)).length = G at *
  generalize logB (s.list.drop n) = GD at *
  generalize ((lB s).getD []).length = LN at *
  generalize hFR : size - totalA s.fs = FR at *
  generalize hTT : (logB (x :: r)).length = TN at *
  generalize logB (x :: r) = TX at *
  generalize x.i = XI at *
  generalize s.snap.i = I at *
  generalize (x :: r).length = M at *
  have wF : IntKind.i64.wrap ((FR : Int) + (G : Int)) = (FR : Int) + (G : Int) := IntWalk.i64_in _ ⟨by omega, by omega⟩
  have wL : IntKind.i64.wrap ((LN : Int) - (G : Int)) = ((LN - G : Nat) : Int) := by rw [show (LN : Int) - (G : Int) = ((LN - G : Nat) : Int) by omega]; exact IntWalk.i64_in _ ⟨by omega, by omega⟩
  by_cases hfull : FR + G < TN
  · have hfi : (FR : Int) + (G : Int) < (TN : Int) := by omega
    by_cases hn0 : n = 0
    · have hLG := hG0 hn0
      subst hLG
      subst hn0
      go_enter Tryz.func25, Tryz.ntmps25
      go_wp2_with fail
      go_region_held3 (fun w' => w'.cell? ⟨q, 7, none⟩ = some (.string ⟨#[114]⟩)) (first | exact p3 | exact c7 | go_keep)
        (first
        | (go_at_call 28; refine (H24.out _ (by first | exact Below.refl _ _ | exact (Below.refl _ _).drew | exact hb3 | exact hb3.drew)).mono ?_; rintro e w2 ⟨rfl, rfl⟩)
        | (go_at_call 44; refine (H49.out _ (by first | exact Below.refl _ _ | exact (Below.refl _ _).drew)).mono ?_; rintro e w3 ⟨rfl, hb3⟩; have p3 := (HK.out _ hb3).2.1)
        | fail)
      all_goals
        have HBa : Hid (Below w.heap.size w _) := hb3
        clear hb3 p3
        go_wp2_with (go_at_call 45; refine (H42.out _ (by first | exact HBa.out | exact HBa.out.drew)).mono ?_; rintro e w4 ⟨rfl, rfl⟩)
        obtain ⟨p5, p7, pg⟩ := HK.out _ HBa.out
        try generalize w3.drew = w3 at *
        go_quiet ((go_at_call 20; exact Calls.quiet_of_same (q14.out _ _ (by first | exact HBa.out | exact HBa.out.drew))))
        go_wp2_with (go_at_call 46; refine (H41.out _ (by first | exact below_drewN HBa.out _ | exact below_drewN HBa.out.drew _)).mono ?_; rintro e w5 ⟨rfl, hb5⟩; have HBc := hid hb5; clear hb5)
        go_ret
        exact .inl ⟨hfull, rfl, (HAS.out _ HBc.out).out⟩
    · have hnp : (0 : Int) < (n : Int) := by omega
      obtain ⟨g0, rfl⟩ := hoa (by omega)
      have hn1 : (0 : Int) ≤ (n : Int) := by omega
      have hn2 : (n : Int) ≤ (s.list.length : Int) := by omega
      by_cases hcn : cap = n
      · have hNn : s.list.length ≤ n := by omega
        have hNe : s.list.length - n = 0 := by omega
        go_enter Tryz.func25, Tryz.ntmps25
        go_wp2_with fail
        go_region_held3 (fun w' => w'.cell? ⟨q, 7, none⟩ = some (.string ⟨#[114]⟩)) (first | exact p3 | exact c7 | go_keep)
          (first
          | (go_at_call 28; refine (H24.out _ (by first | exact Below.refl _ _ | exact (Below.refl _ _).drew | exact hb3 | exact hb3.drew)).mono ?_; rintro e w2 ⟨rfl, rfl⟩)
          | (go_at_call 44; refine (H49.out _ (by first | exact Below.refl _ _ | exact (Below.refl _ _).drew)).mono ?_; rintro e w3 ⟨rfl, hb3⟩; have p3 := (HK.out _ hb3).2.1)
          | fail)
        all_goals
          have HBa : Hid (Below w.heap.size w _) := hb3
          clear hb3 p3
          go_wp2_with (go_at_call 45; refine (H42.out _ (by first | exact HBa.out | exact HBa.out.drew)).mono ?_; rintro e w4 ⟨rfl, rfl⟩)
          obtain ⟨p5, p7, pg⟩ := HK.out _ HBa.out
          try generalize w3.drew = w3 at *
          go_quiet ((go_at_call 20; exact Calls.quiet_of_same (q14.out _ _ (by first | exact HBa.out | exact HBa.out.drew))))
          go_wp2_with (first | (go_at_call 44; refine (H49c.out _ _ _ (by first | exact below_drewN HBa.out _ | exact below_drewN HBa.out.drew _) hNn).mono ?_; rintro e w6 ⟨rfl, hb6⟩; have HBb := hid hb6; clear hb6) | (go_at_call 46; refine (H41.out _ HBb.out).mono ?_; rintro e w5 ⟨rfl, hb5⟩; have HBc := hid hb5; clear hb5))
          go_ret
          exact .inl ⟨hfull, rfl, (HAS.out _ HBc.out).out⟩
      · have hNn : True := trivial
        go_enter Tryz.func25, Tryz.ntmps25
        go_wp2_with fail
        go_region_held3 (fun w' => w'.cell? ⟨q, 7, none⟩ = some (.string ⟨#[114]⟩)) (first | exact p3 | exact c7 | go_keep)
          (first
          | (go_at_call 28; refine (H24.out _ (by first | exact Below.refl _ _ | exact (Below.refl _ _).drew | exact hb3 | exact hb3.drew)).mono ?_; rintro e w2 ⟨rfl, rfl⟩)
          | (go_at_call 44; refine (H49.out _ (by first | exact Below.refl _ _ | exact (Below.refl _ _).drew)).mono ?_; rintro e w3 ⟨rfl, hb3⟩; have p3 := (HK.out _ hb3).2.1)
          | fail)
        all_goals
          have HBa : Hid (Below w.heap.size w _) := hb3
          clear hb3 p3
          go_wp2_with (go_at_call 45; refine (H42.out _ (by first | exact HBa.out | exact HBa.out.drew)).mono ?_; rintro e w4 ⟨rfl, rfl⟩)
          obtain ⟨p5, p7, pg⟩ := HK.out _ HBa.out
          try generalize w3.drew = w3 at *
          go_quiet ((go_at_call 20; exact Calls.quiet_of_same (q14.out _ _ (by first | exact HBa.out | exact HBa.out.drew))))
          go_wp2_with (first | (go_at_call 44; refine (H49b.out _ _ (by first | exact below_drewN HBa.out _ | exact below_drewN HBa.out.drew _) (fun _ => ⟨g0, rfl, rfl⟩)).mono ?_; rintro e w6 ⟨rfl, hb6⟩; have HBb := hid hb6; clear hb6) | (go_at_call 46; refine (H41.out _ HBb.out).mono ?_; rintro e w5 ⟨rfl, hb5⟩; have HBc := hid hb5; clear hb5))
          go_ret
          exact .inl ⟨hfull, rfl, (HAS.out _ HBc.out).out⟩
  · have hfi : ¬ (FR : Int) + (G : Int) < (TN : Int) := by omega
    obtain ⟨W1, ⟨F1, hF1, hF2, hF3, hF4⟩, _, _⟩ := HW.out hfull
    by_cases hG : 0 < G
    · have hGi : (0 : Int) < (G : Int) := by omega
      have HCE : Hid (cutE s.fs nL ((LN - G : Nat) : Int) = 0 ∧ cutL s.fs nL ((LN - G : Nat) : Int) = F1) := by
        rcases hF1 with ⟨_, e⟩ | ⟨e, _⟩
        · rw [e]; exact W1 hG
        · exact absurd hG e
      have HAE := hid hF2
      have HSE := hid (And.intro hF3 hF4)
      clear W1 hF1 hF2 hF3 hF4
      by_cases hn0 : n = 0
      · have hLG := hG0 hn0
        subst hLG
        subst hn0
        have HCE : Hid (cutE s.fs nL 0 = 0 ∧ cutL s.fs nL 0 = F1) := by have h := HCE.out; simp only [Nat.sub_self, Int.natCast_zero] at h; exact h
        go_enter Tryz.func25, Tryz.ntmps25
        go_wp2_with fail
        go_region_held3 (fun w' => w'.cell? ⟨q, 7, none⟩ = some (.string ⟨#[114]⟩)) (first | exact p3 | exact c7 | go_keep)
          (first
          | (go_at_call 28; refine (H24.out _ (by first | exact Below.refl _ _ | exact (Below.refl _ _).drew | exact hb3 | exact hb3.drew)).mono ?_; rintro e w2 ⟨rfl, rfl⟩)
          | (go_at_call 44; refine (H49.out _ (by first | exact Below.refl _ _ | exact (Below.refl _ _).drew)).mono ?_; rintro e w3 ⟨rfl, hb3⟩; have p3 := (HK.out _ hb3).2.1)
          | fail)
        all_goals
          have HBa : Hid (Below w.heap.size w _) := hb3
          clear hb3 p3
          go_wp2_with (go_at_call 45; refine (H42.out _ (by first | exact HBa.out | exact HBa.out.drew)).mono ?_; rintro e w4 ⟨rfl, rfl⟩)
          obtain ⟨p5, p7, pg⟩ := HK.out _ HBa.out
          try generalize w3.drew = w3 at *
          go_quiet ((go_at_call 20; exact Calls.quiet_of_same (q14.out _ _ (by first | exact HBa.out | exact HBa.out.drew))))
          go_wp2_with (go_at_call 46; refine (H41.out _ (by first | exact below_drewN HBa.out _ | exact below_drewN HBa.out.drew _)).mono ?_; rintro e w5 ⟨rfl, hb5⟩; have HBc := hid hb5; clear hb5)
          go_wp2_with (first | (go_at_call 45; refine (H42.out _ HBc.out).mono ?_; rintro e w7 ⟨rfl, rfl⟩) | (go_at_call 47; refine (H50.out _ _ HBc.out).mono ?_; rintro e w8 ⟨rfl, HA8⟩; rw [HCE.out.1]; rw [HCE.out.2] at HA8) | (go_at_call 48; refine (H51.out _ _ HA8).mono ?_; rintro e w9 ⟨rfl, HA9⟩; rw [HAE.out]) | (go_at_call 43; refine (H39.out _ _ HA9).mono ?_; rintro e w10 ⟨rfl, HA10⟩; rw [HSE.out.1]; rw [HSE.out.2] at HA10))
          go_ret
          exact .inr ⟨hfull, rfl, by rw [HSf.out]; exact HA10.out⟩
      · have hnp : (0 : Int) < (n : Int) := by omega
        obtain ⟨g0, rfl⟩ := hoa (by omega)
        have hn1 : (0 : Int) ≤ (n : Int) := by omega
        have hn2 : (n : Int) ≤ (s.list.length : Int) := by omega
        by_cases hcn : cap = n
        · have hNn : s.list.length ≤ n := by omega
          have hNe : s.list.length - n = 0 := by omega
          go_enter Tryz.func25, Tryz.ntmps25
          go_wp2_with fail
          go_region_held3 (fun w' => w'.cell? ⟨q, 7, none⟩ = some (.string ⟨#[114]⟩)) (first | exact p3 | exact c7 | go_keep)
            (first
            | (go_at_call 28; refine (H24.out _ (by first | exact Below.refl _ _ | exact (Below.refl _ _).drew | exact hb3 | exact hb3.drew)).mono ?_; rintro e w2 ⟨rfl, rfl⟩)
            | (go_at_call 44; refine (H49.out _ (by first | exact Below.refl _ _ | exact (Below.refl _ _).drew)).mono ?_; rintro e w3 ⟨rfl, hb3⟩; have p3 := (HK.out _ hb3).2.1)
            | fail)
          all_goals
            have HBa : Hid (Below w.heap.size w _) := hb3
            clear hb3 p3
            go_wp2_with (go_at_call 45; refine (H42.out _ (by first | exact HBa.out | exact HBa.out.drew)).mono ?_; rintro e w4 ⟨rfl, rfl⟩)
            obtain ⟨p5, p7, pg⟩ := HK.out _ HBa.out
            try generalize w3.drew = w3 at *
            go_quiet ((go_at_call 20; exact Calls.quiet_of_same (q14.out _ _ (by first | exact HBa.out | exact HBa.out.drew))))
            go_wp2_with (first | (go_at_call 44; refine (H49c.out _ _ _ (by first | exact below_drewN HBa.out _ | exact below_drewN HBa.out.drew _) hNn).mono ?_; rintro e w6 ⟨rfl, hb6⟩; have HBb := hid hb6; clear hb6) | (go_at_call 46; refine (H41.out _ HBb.out).mono ?_; rintro e w5 ⟨rfl, hb5⟩; have HBc := hid hb5; clear hb5))
            go_wp2_with (first | (go_at_call 45; refine (H42.out _ HBc.out).mono ?_; rintro e w7 ⟨rfl, rfl⟩) | (go_at_call 47; refine (H50.out _ _ HBc.out).mono ?_; rintro e w8 ⟨rfl, HA8⟩; rw [HCE.out.1]; rw [HCE.out.2] at HA8) | (go_at_call 48; refine (H51.out _ _ HA8).mono ?_; rintro e w9 ⟨rfl, HA9⟩; rw [HAE.out]) | (go_at_call 43; refine (H39.out _ _ HA9).mono ?_; rintro e w10 ⟨rfl, HA10⟩; rw [HSE.out.1]; rw [HSE.out.2] at HA10))
            go_ret
            exact .inr ⟨hfull, rfl, by rw [HSf.out]; exact HA10.out⟩
        · have hNn : True := trivial
          go_enter Tryz.func25, Tryz.ntmps25
          go_wp2_with fail
          go_region_held3 (fun w' => w'.cell? ⟨q, 7, none⟩ = some (.string ⟨#[114]⟩)) (first | exact p3 | exact c7 | go_keep)
            (first
            | (go_at_call 28; refine (H24.out _ (by first | exact Below.refl _ _ | exact (Below.refl _ _).drew | exact hb3 | exact hb3.drew)).mono ?_; rintro e w2 ⟨rfl, rfl⟩)
            | (go_at_call 44; refine (H49.out _ (by first | exact Below.refl _ _ | exact (Below.refl _ _).drew)).mono ?_; rintro e w3 ⟨rfl, hb3⟩; have p3 := (HK.out _ hb3).2.1)
            | fail)
          all_goals
            have HBa : Hid (Below w.heap.size w _) := hb3
            clear hb3 p3
            go_wp2_with (go_at_call 45; refine (H42.out _ (by first | exact HBa.out | exact HBa.out.drew)).mono ?_; rintro e w4 ⟨rfl, rfl⟩)
            obtain ⟨p5, p7, pg⟩ := HK.out _ HBa.out
            try generalize w3.drew = w3 at *
            go_quiet ((go_at_call 20; exact Calls.quiet_of_same (q14.out _ _ (by first | exact HBa.out | exact HBa.out.drew))))
            go_wp2_with (first | (go_at_call 44; refine (H49b.out _ _ (by first | exact below_drewN HBa.out _ | exact below_drewN HBa.out.drew _) (fun _ => ⟨g0, rfl, rfl⟩)).mono ?_; rintro e w6 ⟨rfl, hb6⟩; have HBb := hid hb6; clear hb6) | (go_at_call 46; refine (H41.out _ HBb.out).mono ?_; rintro e w5 ⟨rfl, hb5⟩; have HBc := hid hb5; clear hb5))
            go_wp2_with (first | (go_at_call 45; refine (H42.out _ HBc.out).mono ?_; rintro e w7 ⟨rfl, rfl⟩) | (go_at_call 47; refine (H50.out _ _ HBc.out).mono ?_; rintro e w8 ⟨rfl, HA8⟩; rw [HCE.out.1]; rw [HCE.out.2] at HA8) | (go_at_call 48; refine (H51.out _ _ HA8).mono ?_; rintro e w9 ⟨rfl, HA9⟩; rw [HAE.out]) | (go_at_call 43; refine (H39.out _ _ HA9).mono ?_; rintro e w10 ⟨rfl, HA10⟩; rw [HSE.out.1]; rw [HSE.out.2] at HA10))
            go_ret
            exact .inr ⟨hfull, rfl, by rw [HSf.out]; exact HA10.out⟩
    · have hGi : ¬ (0 : Int) < (G : Int) := by omega
      have hF1' : F1 = s.fs := by
        rcases hF1 with ⟨e, _⟩ | ⟨_, e⟩
        · exact absurd e hG
        · exact e
      subst hF1'
      have HAE := hid hF2
      have HSE := hid (And.intro hF3 hF4)
      clear W1 hF1 hF2 hF3 hF4
      by_cases hn0 : n = 0
      · have hLG := hG0 hn0
        subst hLG
        subst hn0
        go_enter Tryz.func25, Tryz.ntmps25
        go_wp2_with fail
        go_region_held3 (fun w' => w'.cell? ⟨q, 7, none⟩ = some (.string ⟨#[114]⟩)) (first | exact p3 | exact c7 | go_keep)
          (first
          | (go_at_call 28; refine (H24.out _ (by first | exact Below.refl _ _ | exact (Below.refl _ _).drew | exact hb3 | exact hb3.drew)).mono ?_; rintro e w2 ⟨rfl, rfl⟩)
          | (go_at_call 44; refine (H49.out _ (by first | exact Below.refl _ _ | exact (Below.refl _ _).drew)).mono ?_; rintro e w3 ⟨rfl, hb3⟩; have p3 := (HK.out _ hb3).2.1)
          | fail)
        all_goals
          have HBa : Hid (Below w.heap.size w _) := hb3
          clear hb3 p3
          go_wp2_with (go_at_call 45; refine (H42.out _ (by first | exact HBa.out | exact HBa.out.drew)).mono ?_; rintro e w4 ⟨rfl, rfl⟩)
          obtain ⟨p5, p7, pg⟩ := HK.out _ HBa.out
          try generalize w3.drew = w3 at *
          go_quiet ((go_at_call 20; exact Calls.quiet_of_same (q14.out _ _ (by first | exact HBa.out | exact HBa.out.drew))))
          go_wp2_with (go_at_call 46; refine (H41.out _ (by first | exact below_drewN HBa.out _ | exact below_drewN HBa.out.drew _)).mono ?_; rintro e w5 ⟨rfl, hb5⟩; have HBc := hid hb5; clear hb5)
          have HA8 := HAS.out _ HBc.out
          go_wp2_with (first | (go_at_call 48; refine (H51.out _ _ HA8).mono ?_; rintro e w9 ⟨rfl, HA9⟩; rw [HAE.out]) | (go_at_call 43; refine (H39.out _ _ HA9).mono ?_; rintro e w10 ⟨rfl, HA10⟩; rw [HSE.out.1]; rw [HSE.out.2] at HA10))
          go_ret
          exact .inr ⟨hfull, rfl, by rw [HSf.out]; exact HA10.out⟩
      · have hnp : (0 : Int) < (n : Int) := by omega
        obtain ⟨g0, rfl⟩ := hoa (by omega)
        have hn1 : (0 : Int) ≤ (n : Int) := by omega
        have hn2 : (n : Int) ≤ (s.list.length : Int) := by omega
        by_cases hcn : cap = n
        · have hNn : s.list.length ≤ n := by omega
          have hNe : s.list.length - n = 0 := by omega
          go_enter Tryz.func25, Tryz.ntmps25
          go_wp2_with fail
          go_region_held3 (fun w' => w'.cell? ⟨q, 7, none⟩ = some (.string ⟨#[114]⟩)) (first | exact p3 | exact c7 | go_keep)
            (first
            | (go_at_call 28; refine (H24.out _ (by first | exact Below.refl _ _ | exact (Below.refl _ _).drew | exact hb3 | exact hb3.drew)).mono ?_; rintro e w2 ⟨rfl, rfl⟩)
            | (go_at_call 44; refine (H49.out _ (by first | exact Below.refl _ _ | exact (Below.refl _ _).drew)).mono ?_; rintro e w3 ⟨rfl, hb3⟩; have p3 := (HK.out _ hb3).2.1)
            | fail)
          all_goals
            have HBa : Hid (Below w.heap.size w _) := hb3
            clear hb3 p3
            go_wp2_with (go_at_call 45; refine (H42.out _ (by first | exact HBa.out | exact HBa.out.drew)).mono ?_; rintro e w4 ⟨rfl, rfl⟩)
            obtain ⟨p5, p7, pg⟩ := HK.out _ HBa.out
            try generalize w3.drew = w3 at *
            go_quiet ((go_at_call 20; exact Calls.quiet_of_same (q14.out _ _ (by first | exact HBa.out | exact HBa.out.drew))))
            go_wp2_with (first | (go_at_call 44; refine (H49c.out _ _ _ (by first | exact below_drewN HBa.out _ | exact below_drewN HBa.out.drew _) hNn).mono ?_; rintro e w6 ⟨rfl, hb6⟩; have HBb := hid hb6; clear hb6) | (go_at_call 46; refine (H41.out _ HBb.out).mono ?_; rintro e w5 ⟨rfl, hb5⟩; have HBc := hid hb5; clear hb5))
            have HA8 := HAS.out _ HBc.out
            go_wp2_with (first | (go_at_call 48; refine (H51.out _ _ HA8).mono ?_; rintro e w9 ⟨rfl, HA9⟩; rw [HAE.out]) | (go_at_call 43; refine (H39.out _ _ HA9).mono ?_; rintro e w10 ⟨rfl, HA10⟩; rw [HSE.out.1]; rw [HSE.out.2] at HA10))
            go_ret
            exact .inr ⟨hfull, rfl, by rw [HSf.out]; exact HA10.out⟩
        · have hNn : True := trivial
          go_enter Tryz.func25, Tryz.ntmps25
          go_wp2_with fail
          go_region_held3 (fun w' => w'.cell? ⟨q, 7, none⟩ = some (.string ⟨#[114]⟩)) (first | exact p3 | exact c7 | go_keep)
            (first
            | (go_at_call 28; refine (H24.out _ (by first | exact Below.refl _ _ | exact (Below.refl _ _).drew | exact hb3 | exact hb3.drew)).mono ?_; rintro e w2 ⟨rfl, rfl⟩)
            | (go_at_call 44; refine (H49.out _ (by first | exact Below.refl _ _ | exact (Below.refl _ _).drew)).mono ?_; rintro e w3 ⟨rfl, hb3⟩; have p3 := (HK.out _ hb3).2.1)
            | fail)
          all_goals
            have HBa : Hid (Below w.heap.size w _) := hb3
            clear hb3 p3
            go_wp2_with (go_at_call 45; refine (H42.out _ (by first | exact HBa.out | exact HBa.out.drew)).mono ?_; rintro e w4 ⟨rfl, rfl⟩)
            obtain ⟨p5, p7, pg⟩ := HK.out _ HBa.out
            try generalize w3.drew = w3 at *
            go_quiet ((go_at_call 20; exact Calls.quiet_of_same (q14.out _ _ (by first | exact HBa.out | exact HBa.out.drew))))
            go_wp2_with (first | (go_at_call 44; refine (H49b.out _ _ (by first | exact below_drewN HBa.out _ | exact below_drewN HBa.out.drew _) (fun _ => ⟨g0, rfl, rfl⟩)).mono ?_; rintro e w6 ⟨rfl, hb6⟩; have HBb := hid hb6; clear hb6) | (go_at_call 46; refine (H41.out _ HBb.out).mono ?_; rintro e w5 ⟨rfl, hb5⟩; have HBc := hid hb5; clear hb5))
            have HA8 := HAS.out _ HBc.out
            go_wp2_with (first | (go_at_call 48; refine (H51.out _ _ HA8).mono ?_; rintro e w9 ⟨rfl, HA9⟩; rw [HAE.out]) | (go_at_call 43; refine (H39.out _ _ HA9).mono ?_; rintro e w10 ⟨rfl, HA10⟩; rw [HSE.out.1]; rw [HSE.out.2] at HA10))
            go_ret
            exact .inr ⟨hfull, rfl, by rw [HSf.out]; exact HA10.out⟩
end Go.Proofs.YtclldpecbocclaaGreat

