/- The document's write. -/
import Derived.Test.YtjggdecjnnpjaaaGreatH14
import Derived.Test.YtjggdecjnnpjaaaGreatH7
import Derived.Test.YtjggdecjnnpjaaaGreatH17
import Derived.Test.YtjggdecjnnpjaaaGreatH8
namespace Go.Proofs.YtjggdecjnnpjaaaGreat
open Go.RowKit Go.Maps Go.Sort
set_option maxRecDepth 100000
set_option linter.unusedSimpArgs false
set_option linter.unusedVariables false

set_option maxHeartbeats 1000000 in
theorem eql51 (x y : Int × Int) (w : World) : (binOp .eql 51 (.agg #[.int .i64 x.1, .int .i64 x.2, .string ⟨#[]⟩]) (.agg #[.int .i64 y.1, .int .i64 y.2, .string ⟨#[]⟩])).run Tryz.prog w = .ok (.bool (decide (x = y))) w := by
  rw [run_eql_struct, run_equalIn_agg w 9999 51 _ _ (by kernel_rfl) (by kernel_rfl)]
  obtain ⟨a, b⟩ := x
  obtain ⟨c, d⟩ := y
  by_cases h1 : a = c <;> by_cases h2 : b = d <;> simp [go_sem, h1, h2]
/-- What write leaves. -/
def RKeep (U T U0 : Nat → Prop) (w w' : World) (q r : Nat) (name : ByteArray) (l : List (Int × Int)) (size : Nat) (fs : List AF) : Prop :=
  ∃ U' T' v dv, RC w' U' q r name v l ∧ RefM w' T' r size dv fs ∧ (∀ k, T' k → ¬ U' k) ∧ (∀ k, U' k ∨ T' k → (U k ∨ T k) ∨ U0 k ∨ w.heap.size ≤ k) ∧ (∀ k, U k ∨ T k → U' k ∨ T' k) ∧ Keeps (fun k => U k ∨ T k) w w'
theorem RefM.keptZ {w w1 : World} {T : Nat → Prop} {r size : Nat} {v : Value} {l : List AF} (h : RefM w T r size v l) (hb : ∀ k, T k → w1.heap[k]? = w.heap[k]?) (hs : w.heap.size ≤ w1.heap.size) : RefM w1 T r size v l :=
  ⟨fun k hk => Nat.lt_of_lt_of_le (h.below k hk) hs, h.self, (hb r h.self).trans h.cells, ownsRow_kept h.row (fun k hk => hb k (h.rowT k hk)), h.rowT⟩
theorem RefM.underZ {w w1 : World} {T : Nat → Prop} {r size : Nat} {v : Value} {l : List AF} (h : RefM w T r size v l) (hb : Below w.heap.size w w1) : RefM w1 T r size v l := h.keptZ (fun k hk => hb.block k (h.below k hk)) hb.size
theorem RefM.besideZ {w w1 : World} {T S : Nat → Prop} {r size : Nat} {v : Value} {l : List AF} (h : RefM w T r size v l) (hk : Keeps S w w1) (hd : ∀ k, T k → ¬ S k) : RefM w1 T r size v l := h.keptZ (fun k hT => hk.block k (h.below k hT) (hd k hT)) hk.size
theorem rkeep_end {w : World} {U T U0 : Nat → Prop} {q r name v v' dv size fs FS} {l l' : List (Int × Int)} (h1 : RC w U q r name v l) (h2 : RefM w T r size dv fs) (h3 : ∀ k, T k → ¬ U k)
    (he : AL w v' l') (ho : ∀ k, v'.ownBlock = some k → (U k ∨ U0 k) ∧ k ≠ q) (hU0 : ∀ k, U0 k → k < w.heap.size ∧ ¬ T k) {W W' : World} (hb : Below w.heap.size w W) (hA : RAfter T W W' r size FS) :
    RKeep U T U0 w W' q r name l size FS ∧ RKeep U T U0 w (W'.setCell ⟨q, 2, none⟩ v') q r name l' size FS ∧ W'.cell? ⟨q, 2, none⟩ = some v ∧ W'.frozen? ⟨q, 2, none⟩ = false := by
  obtain ⟨T', dv', g1, g2, g3, g4⟩ := hA
  have hs := hb.size
  have hs4 := g4.size
  have hM : RC W' U q r name v l := (h1.under hb).beside g4 (fun k hU hS => h3 k hS hU)
  have hK : Keeps (fun k => U k ∨ T k) w W' := (Keeps.of_below hb).trans g4 (fun x hx => .inl (.inr hx))
  have hd : ∀ k, T' k → ¬ U k := fun k hS hU => by
    rcases g2 k hS with h | h
    · exact h3 k h hU
    · have := h1.below k hU; omega
  have hS' : ∀ k, T' k → (U k ∨ T k) ∨ U0 k ∨ w.heap.size ≤ k := fun k hS => by
    rcases g2 k hS with h | h
    · exact .inl (.inr h)
    · exact .inr (.inr (by omega))
  refine ⟨⟨U, T', v, dv', hM, g1, hd, fun k hk => ?_, fun k hk => ?_, hK⟩, ?_, hM.c.2.2, hM.f 2⟩
  · rcases hk with hk | hk
    · exact .inl (.inl hk)
    · exact hS' k hk
  · rcases hk with hk | hk
    · exact .inl hk
    · exact .inr (g3 k hk)
  · have hE : AL W' v' l' := (he.under hb).kept g4.size (fun k hk hlt => g4.block k hlt (fun hS => by
        rcases (ho k hk).1 with h | h
        · exact h3 k hS h
        · exact (hU0 k h).2 hS))
    have hset := hM.set hE U0 ho (fun k hk => by have := (hU0 k hk).1; omega)
    refine ⟨_, T', v', dv', hset, g1.besideZ (keeps_set W' q 2 v') (fun k hS e => hd k hS (by rw [e]; exact h1.self)), fun k hS hU => ?_, fun k hk => ?_, fun k hk => ?_, ?_⟩
    · rcases hU with hU | hU
      · exact hd k hS hU
      · have := hU0 k hU
        rcases g2 k hS with h | h
        · exact this.2 h
        · omega
    · rcases hk with (hk | hk) | hk
      · exact .inl (.inl hk)
      · exact .inr (.inl hk)
      · exact hS' k hk
    · rcases hk with hk | hk
      · exact .inl (.inl hk)
      · exact .inr (g3 k hk)
    · exact hK.trans (keeps_set W' q 2 v') (fun x hx => .inl (.inl (by rw [hx]; exact h1.self)))

set_option maxHeartbeats 6400000 in
theorem rwrite_any {w : World} {U T U0 : Nat → Prop} {q r name v v' dv size fs} {l l' : List (Int × Int)} (h1 : RC w U q r name v l) (h2 : RefM w T r size dv fs) (hok : LOk size fs) (h3 : ∀ k, T k → ¬ U k) (hl : l.length ≤ 200) (hn : name.size ≤ maxLen)
    (he : AL w v' l') (hk : EOk l') (ho : ∀ k, v'.ownBlock = some k → (U k ∨ U0 k) ∧ k ≠ q) (hU0 : ∀ k, U0 k → k < w.heap.size ∧ ¬ T k) :
    Calls Tryz.prog 36 #[.pointer (some ⟨q, 0, none⟩), v'] w fun e w' => e = .returned (.int .i64 (keepE size fs name l l' : Int)) ∧ RKeep U T U0 w w' q r name (keptW size fs name l l') size (keepL size fs name l l') := by
  obtain ⟨oa, cap, rfl, hoa⟩ := he.shape
  obtain ⟨ob, cbp, rfl, hob⟩ := h1.ents.shape
  have hel := ebytes_length l'
  have hfew := hk.few
  have HV := hid he
  have HM := hid h1
  have HA1 := hid h1.ents
  have HEq : Hid (l' = l → keepE size fs name l l' = 0 ∧ keepL size fs name l l' = fs ∧ keptW size fs name l l' = l) := fun heq => ⟨by unfold keepE; rw [if_pos heq], by unfold keepL; rw [if_pos heq], by unfold keptW keepE; rw [if_pos heq, if_pos rfl, heq]⟩
  have HP : Hid (∀ W, Below w.heap.size w W → RKeep U T U0 w W q r name l size fs) := fun W hb => ⟨U, T, _, dv, h1.under hb, h2.underZ hb, h3, fun k hk => .inl hk, fun k hk => hk, Keeps.of_below hb⟩
  have HNe : Hid (l' ≠ l → keepE size fs name l l' = repE size fs name (strOf (ebytes l')) ∧ keepL size fs name l l' = repL size fs name (strOf (ebytes l'))) := fun heq => ⟨by unfold keepE; rw [if_neg heq], by unfold keepL; rw [if_neg heq]⟩
  have HT : Hid (keptW size fs name l l' = if keepE size fs name l l' = 0 then l' else l) := rfl
  have HKp : Hid (∀ W, Below w.heap.size w W → ∀ p u, w.cell? p = some u → W.cell? p = some u) := fun W hb p u hu => (World.cell?_of_block (hb.block p.block (World.block_lt_of_cell? w _ hu))).trans hu
  have HBy : Hid (∀ W, Below w.heap.size w W → Calls Tryz.prog 56 #[.slice oa l'.length cap] W fun e w' => e = .returned (.string (strOf (ebytes l'))) ∧ Below w.heap.size w w') := fun W hb => (rbytes_any (he.under hb) hk).mono fun e w' ⟨e1, e2⟩ => ⟨e1, hb.trans (e2.mono hb.size)⟩
  have HRp : Hid (l' ≠ l → ∀ W, Below w.heap.size w W → Calls Tryz.prog 55 #[.pointer (some ⟨r, 0, none⟩), .string name, .string (strOf (ebytes l'))] W fun e w' => e = .returned (.int .i64 (keepE size fs name l l' : Int)) ∧ RAfter T W w' r size (keepL size fs name l l')) := fun hne W hb => by
    have := rreplace_any (h2.underZ hb) hok name (strOf (ebytes l')) hn (by rw [strOf_size]; unfold maxLen; omega)
    rw [(HNe.out hne).1, (HNe.out hne).2]
    exact this
  have HFin : Hid (∀ W W', Below w.heap.size w W → RAfter T W W' r size (keepL size fs name l l') → RKeep U T U0 w W' q r name l size (keepL size fs name l l') ∧ RKeep U T U0 w (W'.setCell ⟨q, 2, none⟩ (.slice oa l'.length cap)) q r name l' size (keepL size fs name l l') ∧ W'.cell? ⟨q, 2, none⟩ = some (.slice ob l.length cbp) ∧ W'.frozen? ⟨q, 2, none⟩ = false) := fun W W' hb hA => rkeep_end h1 h2 h3 he ho hU0 hb hA
  have HKA : Hid (∀ W W', Below w.heap.size w W → RAfter T W W' r size (keepL size fs name l l') → W'.cell? ⟨q, 0, none⟩ = some (.pointer (some ⟨r, 0, none⟩)) ∧ W'.cell? ⟨q, 1, none⟩ = some (.string name)) := fun W W' hb hA => by
    obtain ⟨T', _, _, _, _, hk⟩ := hA
    have hq := h1.below q h1.self
    have hs := hb.size
    have hbl := hk.block q (by omega) (fun hS => h3 q hS h1.self)
    exact ⟨(World.cell?_of_block (a := ⟨q, 0, none⟩) hbl).trans (h1.under hb).c.1, (World.cell?_of_block (a := ⟨q, 1, none⟩) hbl).trans (h1.under hb).c.2.1⟩
  obtain ⟨k0, k1, k2⟩ := h1.c
  have HK0 := hid k0
  have HK1 := hid k1
  have HK2 := hid k2
  clear h1 h2 hok h3 he hk ho hU0 HNe k0 k1
  obtain ⟨B0, hB0⟩ : ∃ B0 : Bool, ((l'.length : Int) == (l.length : Int)) = B0 := ⟨_, rfl⟩
  have HB0 : Hid ((B0 = true → l'.length = l.length) ∧ (B0 = false → l' ≠ l)) := by
    constructor
    · intro h; rw [h] at hB0; simp at hB0; omega
    · intro h e; rw [h, e] at hB0; simp at hB0
  go_enter Tryz.func36, Tryz.ntmps36
  go_wp2_with fail
  go_loopg [5, 6] l'.length (fun kx s5 s6 wr => ∃ (k : Nat) (b : Bool), k ≤ l'.length ∧ l'.length - k ≤ kx ∧ s6 = .int .i64 (k : Int) ∧ s5 = .bool b ∧ Hid (Below w.heap.size w wr ∧ (b = true → l'.length = l.length ∧ ∀ (i : Nat) x y, i < k → l'[i]? = some x → l[i]? = some y → x = y) ∧ (b = false → l' ≠ l)))
  case atStart => exact ⟨0, B0, by omega, by omega, rfl, rfl, Below.refl _ _, fun h => ⟨HB0.out.1 h, fun i x y hi => by omega⟩, HB0.out.2⟩
  case round =>
    obtain ⟨k, b, hk, hkx, rfl, rfl, HI⟩ := hrel
    have k2' := HKp.out _ HI.out.1 _ _ HK2.out
    by_cases hgo : k < l'.length ∧ b = true
    · obtain ⟨hlt, rfl⟩ := hgo
      have hlt' : (k : Int) < (l'.length : Int) := by omega
      obtain ⟨hll, hpre⟩ := HI.out.2.1 rfl
      have hlm : k < l.length := by omega
      have hlm' : (k : Int) < (l.length : Int) := by omega
      obtain ⟨ga, rfl⟩ := hoa (by omega)
      obtain ⟨gb, rfl⟩ := hob (by omega)
      have hx : l'[k]? = some l'[k] := List.getElem?_eq_getElem hlt
      have hy : l[k]? = some l[k] := List.getElem?_eq_getElem hlm
      obtain ⟨a0, a1, a2⟩ := (HV.out.under HI.out.1).at_ k _ hx
      obtain ⟨b0, b1, b2⟩ := (HA1.out.under HI.out.1).at_ k _ hy
      have HX := hid hx
      have HY := hid hy
      have HLL := hid hll
      have HPre := hid hpre
      clear hx hy hll hpre
      generalize l'[k] = x at *
      generalize l[k] = y at *
      have hq : ∀ W : World, (binOp .eql 51 (.agg #[.int .i64 x.1, .int .i64 x.2, .string ⟨#[]⟩]) (.agg #[.int .i64 y.1, .int .i64 y.2, .string ⟨#[]⟩])).run Tryz.prog W = .ok (.bool (decide (x = y))) W := fun W => eql51 x y W
      have HN : Hid (∀ W, Below w.heap.size w W → (Below w.heap.size w W ∧ (decide (x = y) = true → l'.length = l.length ∧ ∀ (i : Nat) x y, i < k + 1 → l'[i]? = some x → l[i]? = some y → x = y) ∧ (decide (x = y) = false → l' ≠ l))) := fun W hW => by
        refine ⟨hW, fun h => ⟨HLL.out, fun i x' y' hi e1 e2 => ?_⟩, fun h e => ?_⟩
        · have hxy : x = y := by simpa using h
          rcases Nat.lt_or_ge i k with h1 | h1
          · exact HPre.out i x' y' h1 e1 e2
          · have e : i = k := by omega
            subst e
            rw [HX.out] at e1
            rw [HY.out] at e2
            cases e1
            cases e2
            exact hxy
        · have hxy : ¬ x = y := by simpa using h
          have h1 := HX.out
          have h2 := HY.out
          rw [e] at h1
          rw [h1] at h2
          cases h2
          exact hxy rfl
      generalize decide (x = y) = d at *
      go_wp2_with fail
      go_quiet (fail)
      go_wp2_with fail
      go_roundg (l'.length - (k + 1))
      case measure => omega
      case rel => exact ⟨k + 1, d, by omega, Nat.le_refl _, by go_num, rfl, HN.out _ (by first | exact HI.out.1 | exact below_drewN HI.out.1 _)⟩
    · cases b with
      | true =>
        have hlt' : ¬ (k : Int) < (l'.length : Int) := by
          have : ¬ k < l'.length := fun h => hgo ⟨h, rfl⟩
          omega
        obtain ⟨hll, hpre⟩ := HI.out.2.1 rfl
        have heq : l' = l := take_ext hll (fun i x y e1 e2 => hpre i x y (by have := (List.getElem?_eq_some_iff.1 e1).1; omega) e1 e2)
        obtain ⟨E1, E2, E3⟩ := HEq.out heq
        have HE1 := hid E1
        have HE2 := hid E2
        have HE3 := hid E3
        clear hll hpre heq E1 E2 E3 hgo
        go_wp2_with fail
        go_ret
        refine ⟨by rw [HE1.out]; rfl, ?_⟩
        rw [HE2.out, HE3.out]
        exact HP.out _ HI.out.1
      | false =>
        have hne := HI.out.2.2 rfl
        have HR := hid (HRp.out hne)
        have HI1 := hid HI.out.1
        have k0' := HKp.out _ HI.out.1 _ _ HK0.out
        have k1' := HKp.out _ HI.out.1 _ _ HK1.out
        clear hne HRp HEq HI hgo HP
        obtain ⟨E, hEE⟩ : ∃ E, keepE size fs name l l' = E := ⟨_, rfl⟩
        rw [hEE] at HR HT
        have HEE := hid hEE
        clear hEE
        generalize ebytes l' = eb at *
        by_cases hkl : (k : Int) < (l'.length : Int)
        · go_wp2_with fail
          go_region_held3 (fun w' => w'.cell? ⟨q, 0, none⟩ = some (.pointer (some ⟨r, 0, none⟩)) ∧ w'.cell? ⟨q, 1, none⟩ = some (.string name)) (go_keep)
            (first
            | (go_at_call 56; refine (HBy.out _ (by first | exact HI1.out | exact HI1.out.drew)).mono ?_; rintro e w3 ⟨rfl, hb3⟩; have p3 := HKp.out _ hb3 _ _ HK0.out; have p4 := HKp.out _ hb3 _ _ HK1.out)
            | (go_at_call 55; refine (HR.out _ (by first | exact hb3 | exact hb3.drew)).mono ?_; rintro e w4 ⟨rfl, hA4⟩; obtain ⟨p5, p6⟩ := HKA.out _ _ (by first | exact hb3 | exact hb3.drew) hA4)
            | fail)
          all_goals
            obtain ⟨f1, f2, f3, f4⟩ := HFin.out _ _ (by first | exact hb3 | exact hb3.drew) hA4
            have F1 := hid f1
            have F2 := hid f2
            clear f1 f2 hA4
            by_cases hE : E = 0
            · subst hE
              rw [if_pos rfl] at HT
              go_wp2_with fail
              go_ret
              refine ⟨by rw [HEE.out]; rfl, ?_⟩
              rw [HT.out]
              exact F2.out
            · rw [if_neg hE] at HT
              have hE' : ((E : Int) == 0) = false := by simp; omega
              go_wp2_with fail
              go_ret
              refine ⟨by rw [HEE.out]; rfl, ?_⟩
              rw [HT.out]
              exact F1.out
        · go_wp2_with fail
          go_region_held3 (fun w' => w'.cell? ⟨q, 0, none⟩ = some (.pointer (some ⟨r, 0, none⟩)) ∧ w'.cell? ⟨q, 1, none⟩ = some (.string name)) (go_keep)
            (first
            | (go_at_call 56; refine (HBy.out _ (by first | exact HI1.out | exact HI1.out.drew)).mono ?_; rintro e w3 ⟨rfl, hb3⟩; have p3 := HKp.out _ hb3 _ _ HK0.out; have p4 := HKp.out _ hb3 _ _ HK1.out)
            | (go_at_call 55; refine (HR.out _ (by first | exact hb3 | exact hb3.drew)).mono ?_; rintro e w4 ⟨rfl, hA4⟩; obtain ⟨p5, p6⟩ := HKA.out _ _ (by first | exact hb3 | exact hb3.drew) hA4)
            | fail)
          all_goals
            obtain ⟨f1, f2, f3, f4⟩ := HFin.out _ _ (by first | exact hb3 | exact hb3.drew) hA4
            have F1 := hid f1
            have F2 := hid f2
            clear f1 f2 hA4
            by_cases hE : E = 0
            · subst hE
              rw [if_pos rfl] at HT
              go_wp2_with fail
              go_ret
              refine ⟨by rw [HEE.out]; rfl, ?_⟩
              rw [HT.out]
              exact F2.out
            · rw [if_neg hE] at HT
              have hE' : ((E : Int) == 0) = false := by simp; omega
              go_wp2_with fail
              go_ret
              refine ⟨by rw [HEE.out]; rfl, ?_⟩
              rw [HT.out]
              exact F1.out

end Go.Proofs.YtjggdecjnnpjaaaGreat

/- The document's ahead. -/
namespace Go.Proofs.YtjggdecjnnpjaaaGreat
open Go.RowKit Go.Maps Go.Sort
set_option maxRecDepth 100000
set_option linter.unusedSimpArgs false
set_option linter.unusedVariables false

theorem cutW_snoc (l : List (Int × Int)) (k : Nat) (h : k < l.length) (o : Int) : cutW (l.take (k + 1)) o = cutW (l.take k) o ++ (if l[k].2 < o then [l[k]] else []) := by
  rw [← List.take_append_getElem h]
  unfold cutW
  rw [List.filter_append]
  by_cases hx : l[k].2 < o <;> simp [hx]
theorem cutW_len (l : List (Int × Int)) (o : Int) : (cutW l o).length ≤ l.length := List.length_filter_le _ _
set_option maxHeartbeats 3200000 in
theorem rahead_any {w : World} {U q r name v} {l : List (Int × Int)} (h : RC w U q r name v l) (hlen : l.length ≤ 200) (o : Int) :
    Calls Tryz.prog 35 #[.pointer (some ⟨q, 0, none⟩), .int .i64 o] w fun e w' => ∃ rv, e = .returned rv ∧ w'.ownsRow w.heap.size 51 3 rv (cutW l o).length (flatA (cutW l o)) ∧ Below w.heap.size w w' := by
  obtain ⟨i0, hi0, hz0, hz1, hz2⟩ := info51
  obtain ⟨oa, cap, rfl, hoa⟩ := h.ents.shape
  have HE := hid h.ents
  have HC := hid h
  clear h
  go_enter Tryz.func35, Tryz.ntmps35
  go_wp2_with fail
  go_loopg [5, 6] l.length (fun kx s5 s6 wr => ∃ (k : Nat) (sv : Value), k ≤ l.length ∧ l.length - k ≤ kx ∧ s6 = .int .i64 (k : Int) ∧ sv = s5 ∧ Hid (wr.ownsRow w.heap.size 51 3 sv (cutW (l.take k) o).length (flatA (cutW (l.take k) o)) ∧ Below w.heap.size w wr))
  case atStart => exact ⟨0, _, by omega, by omega, rfl, rfl, ⟨by simp [flatA, cutW], .inl ⟨rfl, by simp [cutW]⟩⟩, Below.refl _ _⟩
  case round =>
    obtain ⟨k, sv, hk, hkx, rfl, rfl, HI⟩ := hrel
    obtain ⟨k0, k1, k2⟩ := (HC.out.under HI.out.2).c
    by_cases hlt : k < l.length
    · have hlt' : (k : Int) < (l.length : Int) := by omega
      obtain ⟨g, rfl⟩ := hoa (by omega)
      have hx : l[k]? = some l[k] := List.getElem?_eq_getElem hlt
      obtain ⟨r0, r1, r2⟩ := (HE.out.under HI.out.2).at_ k l[k] hx
      have HSn := hid (cutW_snoc l k hlt o)
      have hcl := cutW_len (l.take k) o
      have htk : (l.take k).length ≤ 200 := by rw [List.length_take]; omega
      clear hx
      generalize l[k] = x at *
      by_cases hxo : x.2 < o
      · rw [if_pos hxo] at HSn
        have hbw := HI.out.2.size
        have HR : Hid ((wr.alloc (.cells #[.int .i64 x.1, .int .i64 x.2, .string ⟨#[]⟩] 51)).ownsRow w.heap.size 51 3 sv (cutW (l.take k) o).length (flatA (cutW (l.take k) o))) := ownsRow_kept HI.out.1 (fun q hq => Below.heap_alloc _ _ _ (World.ownsRow.lt HI.out.1 q hq).2)
        have HNW : Hid (∀ j u, (acells x)[j]? = some u → (wr.alloc (.cells #[.int .i64 x.1, .int .i64 x.2, .string ⟨#[]⟩] 51)).cell? ((⟨wr.heap.size, 0, none⟩ : Addr).add j) = some u) := fun j u hu => by
          rw [add_lit0]
          exact cell_at (heap_alloc_new wr (.cells #[.int .i64 x.1, .int .i64 x.2, .string ⟨#[]⟩] 51)) (by simpa [acells] using hu)
        have HON : Hid (∀ u ∈ acells x, u.oneCell' = true) := by intro u hu; simp [acells] at hu; rcases hu with rfl | rfl | rfl <;> rfl
        have HGR : Hid (∀ v' w2, w2.ownsRow w.heap.size 51 3 v' ((cutW (l.take k) o).length + 1) (flatA (cutW (l.take k) o) ++ acells x) → (wr.alloc (.cells #[.int .i64 x.1, .int .i64 x.2, .string ⟨#[]⟩] 51)).grownBy w2 sv.ownBlock → w2.ownsRow w.heap.size 51 3 v' (cutW (l.take (k + 1)) o).length (flatA (cutW (l.take (k + 1)) o)) ∧ Below w.heap.size w w2) := fun v' w2 ho hg => by
          have hba := HI.out.2.alloc hbw (.cells #[.int .i64 x.1, .int .i64 x.2, .string ⟨#[]⟩] 51)
          refine ⟨?_, hba.grown hg hba.size (fun j hj => (World.ownsRow.lt HI.out.1 j hj).1)⟩
          rw [HSn.out, List.length_append, flatA_append]
          simpa [flatA] using ho
        generalize flatA (cutW (l.take k) o) = F at *
        generalize (cutW (l.take k) o).length = N at *
        go_wp2_with (at_builtin; refine wpList_append_own_at _ rfl _ _ 44 rfl w.heap.size 51 i0 _ 3 32 Tryz.underlying44 hi0 hz0 hz1 hz2 rfl (by decide) _ N F rfl HR.out ⟨wr.heap.size, 0, none⟩ 1 1 (acells x) rfl rfl HNW.out HON.out (by unfold maxLen; omega) (by omega) (by simp; omega) ?_; intro v' w2 hown2 hg2 _ hat)
        go_roundg (l.length - (k + 1))
        case measure => omega
        case rel => exact ⟨k + 1, v', by omega, Nat.le_refl _, by go_num, rfl, HGR.out _ _ hown2 hg2⟩
      · rw [if_neg hxo, List.append_nil] at HSn
        go_wp2_with fail
        go_roundg (l.length - (k + 1))
        case measure => omega
        case rel => exact ⟨k + 1, sv, by omega, Nat.le_refl _, by go_num, rfl, by rw [HSn.out]; exact HI⟩
    · have hlt' : ¬ (k : Int) < (l.length : Int) := by omega
      have e : k = l.length := by omega
      subst e
      rw [List.take_length] at HI
      have hsh : ∃ o n c, sv = .slice o n c := by
        rcases HI.out.1.2 with ⟨e, _⟩ | ⟨g, cap', cur, e, _⟩
        · exact ⟨_, _, _, e⟩
        · exact ⟨_, _, _, e⟩
      obtain ⟨o', n, c, rfl⟩ := hsh
      go_wp2_with fail
      go_ret
      exact ⟨_, rfl, HI.out⟩
end Go.Proofs.YtjggdecjnnpjaaaGreat

/- The document's cache and its disk; Cut, All. -/
namespace Go.Proofs.YtjggdecjnnpjaaaGreat
open Go.RowKit Go.Maps Go.Sort
set_option maxRecDepth 100000
set_option linter.unusedSimpArgs false
set_option linter.unusedVariables false

theorem owns_base {w : World} {B B' T z n : Nat} {v : Value} {xs : List Value} (h : w.ownsRow B T z v n xs) (hB : B' ≤ B) : w.ownsRow B' T z v n xs := by
  obtain ⟨h1, ⟨e, h0⟩ | ⟨g, cap, cur, e, hb, rest⟩⟩ := h
  · exact ⟨h1, .inl ⟨e, h0⟩⟩
  · exact ⟨h1, .inr ⟨g, cap, cur, e, Nat.le_trans hB hb, rest⟩⟩
/-- The document's cache and its disk, in blocks B. -/
def RD (w : World) (B : Nat → Prop) (q r : Nat) (name : ByteArray) (l : List (Int × Int)) (size : Nat) (fs : List AF) : Prop :=
  ∃ U T v dv, RC w U q r name v l ∧ RefM w T r size dv fs ∧ (∀ k, T k → ¬ U k) ∧ (∀ k, B k ↔ U k ∨ T k)
/-- What a call leaves of both. -/
def RDA (B : Nat → Prop) (w w' : World) (q r : Nat) (name : ByteArray) (l : List (Int × Int)) (size : Nat) (fs : List AF) : Prop :=
  ∃ B', RD w' B' q r name l size fs ∧ (∀ k, B' k → B k ∨ w.heap.size ≤ k) ∧ (∀ k, B k → B' k) ∧ Keeps B w w'
theorem RD.below {w : World} {B q r name l size fs} (h : RD w B q r name l size fs) : ∀ k, B k → k < w.heap.size := fun k hk => by
  obtain ⟨U, T, v, dv, h1, h2, h3, h4⟩ := h
  rcases (h4 k).1 hk with h | h
  · exact h1.below k h
  · exact h2.below k h
theorem RD.under {w w1 : World} {B q r name l size fs} (h : RD w B q r name l size fs) (hb : Below w.heap.size w w1) : RD w1 B q r name l size fs := by
  obtain ⟨U, T, v, dv, h1, h2, h3, h4⟩ := h
  exact ⟨U, T, v, dv, h1.under hb, h2.underZ hb, h3, h4⟩
theorem RD.beside {w w1 : World} {B S : Nat → Prop} {q r name l size fs} (h : RD w B q r name l size fs) (hk : Keeps S w w1) (hd : ∀ k, B k → ¬ S k) : RD w1 B q r name l size fs := by
  obtain ⟨U, T, v, dv, h1, h2, h3, h4⟩ := h
  exact ⟨U, T, v, dv, h1.beside hk (fun k hU => hd k ((h4 k).2 (.inl hU))), h2.besideZ hk (fun k hS => hd k ((h4 k).2 (.inr hS))), h3, h4⟩
theorem RDA.same {w w1 : World} {B q r name l size fs} (h : RD w B q r name l size fs) (hb : Below w.heap.size w w1) : RDA B w w1 q r name l size fs :=
  ⟨B, h.under hb, fun k hk => .inl hk, fun k hk => hk, Keeps.of_below hb⟩
def RPost (B : Nat → Prop) (w : World) (q r : Nat) (name : ByteArray) (l : List (Int × Int)) (size : Nat) (fs : List AF) (X : Nat × List (Int × Int)) (e : Ending) (w' : World) : Prop :=
  e = .returned (.int .i64 (wishE size fs name l X : Int)) ∧ RDA B w w' q r name (wishW size fs name l X) size (wishL size fs name l X)
theorem rcall_err {B : Nat → Prop} {w w' : World} {q r name l size fs} (h : RD w B q r name l size fs) (hb : Below w.heap.size w w') (l' : List (Int × Int)) (c : Nat) (hc : c ≠ 0) : RPost B w q r name l size fs (c, l') (.returned (.int .i64 (c : Int))) w' := by
  obtain ⟨e1, e2, e3⟩ := wish_err size fs name l l' c hc
  unfold RPost
  rw [e1, e2, e3]
  exact ⟨rfl, RDA.same h hb⟩
theorem rcall_none {B : Nat → Prop} {w w' : World} {q r name l size fs} (h : RD w B q r name l size fs) (hb : Below w.heap.size w w') : RPost B w q r name l size fs (0, l) (.returned (.int .i64 0)) w' := by
  obtain ⟨e1, e2, e3⟩ := wish_same size fs name l
  unfold RPost
  rw [e1, e2, e3]
  exact ⟨rfl, RDA.same h hb⟩
/-- write, of entries in a new row. -/
theorem RD.write {w W : World} {B : Nat → Prop} {q r name l size fs} (h : RD w B q r name l size fs) (hok : LOk size fs) (hk : EOk l) (hn : name.size ≤ maxLen) (hb : Below w.heap.size w W) {v' : Value} {l' : List (Int × Int)} (hk' : EOk l') {n : Nat} (hrow : W.ownsRow w.heap.size 51 3 v' n (flatA l')) (hnl : n = l'.length) :
    Calls Tryz.prog 36 #[.pointer (some ⟨q, 0, none⟩), v'] W fun e w' => RPost B w q r name l size fs (0, l') e w' := by
  subst hnl
  obtain ⟨U, T, v, dv, h1, h2, h3, h4⟩ := h
  have hq := h1.below q h1.self
  have hs := hb.size
  refine (rwrite_any (U0 := fun k => w.heap.size ≤ k ∧ k < W.heap.size) (h1.under hb) (h2.underZ hb) hok h3 hk.few hn (AL.of hrow) hk' (fun k hk => ?_) (fun k hk => ⟨hk.2, fun hS => ?_⟩)).mono ?_
  · have := World.ownsRow.lt hrow k hk
    exact ⟨.inr this, by omega⟩
  · have := h2.below k hS; omega
  · rintro e w' ⟨e1, U', T', v2, dv2, g1, g2, g3, g4, g5, g6⟩
    refine ⟨e1, fun k => U' k ∨ T' k, ⟨U', T', v2, dv2, g1, g2, g3, fun k => Iff.rfl⟩, fun k hk => ?_, fun k hk => g5 k ((h4 k).1 hk), (Keeps.of_below hb).trans g6 (fun x hx => .inl ((h4 x).2 hx))⟩
    rcases g4 k hk with h | h | h
    · exact .inl ((h4 k).2 h)
    · exact .inr h.1
    · exact .inr (by omega)
theorem RD.ahead {w W : World} {B : Nat → Prop} {q r name l size fs} (h : RD w B q r name l size fs) (hk : EOk l) (hb : Below w.heap.size w W) (o : Int) :
    Calls Tryz.prog 35 #[.pointer (some ⟨q, 0, none⟩), .int .i64 o] W fun e w' => ∃ rv, e = .returned rv ∧ w'.ownsRow w.heap.size 51 3 rv (cutW l o).length (flatA (cutW l o)) ∧ Below w.heap.size w w' := by
  obtain ⟨U, T, v, dv, h1, h2, h3, h4⟩ := h
  have hs := hb.size
  refine (rahead_any (h1.under hb) hk.few o).mono fun e w' ⟨rv, e1, e2, e3⟩ => ⟨rv, e1, ?_, hb.trans (e3.mono hs)⟩
  exact owns_base e2 hs
set_option maxHeartbeats 1600000 in
theorem rcut_any {w : World} {B : Nat → Prop} {q r name l size fs} (h : RD w B q r name l size fs) (hok : LOk size fs) (hk : EOk l) (hn : name.size ≤ maxLen) (o : Int) :
    Calls Tryz.prog 12 #[.pointer (some ⟨q, 0, none⟩), .int .i64 o] w fun e w' => RPost B w q r name l size fs (cutC l o) e w' := by
  have H34 := hid (rmay_any o w)
  have HC : Hid (cutC l o = if inB o then (0, cutW l o) else (1, l)) := rfl
  have HD := hid h
  have H35 : Hid (∀ W, Below w.heap.size w W → Calls Tryz.prog 35 #[.pointer (some ⟨q, 0, none⟩), .int .i64 o] W fun e w' => ∃ rv, e = .returned rv ∧ w'.ownsRow w.heap.size 51 3 rv (cutW l o).length (flatA (cutW l o)) ∧ Below w.heap.size w w') := fun W hb => h.ahead hk hb o
  have H36 : Hid (∀ W v', Below w.heap.size w W → W.ownsRow w.heap.size 51 3 v' (cutW l o).length (flatA (cutW l o)) → Calls Tryz.prog 36 #[.pointer (some ⟨q, 0, none⟩), v'] W fun e w' => RPost B w q r name l size fs (0, cutW l o) e w') := fun W v' hb hr => h.write hok hk hn hb (hk.cut o) hr rfl
  clear h hok hk
  cases hI : inB o with
  | false =>
    rw [hI] at H34 HC
    rw [if_neg (by simp)] at HC
    go_enter Tryz.func12, Tryz.ntmps12
    go_wp2_with (go_at_call 34; refine H34.out.mono ?_; rintro e w1 ⟨rfl, rfl⟩)
    go_ret
    rw [HC.out]
    exact rcall_err HD.out (Below.refl _ _) _ 1 (by omega)
  | true =>
    rw [hI] at H34 HC
    rw [if_pos rfl] at HC
    go_enter Tryz.func12, Tryz.ntmps12
    go_wp2_with fail
    refine H34.out.mono ?_
    rintro e w1 ⟨rfl, rfl⟩
    go_wp2_with fail
    refine (H35.out _ (Below.refl _ _)).mono ?_
    rintro e w2 ⟨rv, rfl, hr2, hb2⟩
    have HW := hid (H36.out _ _ hb2 hr2)
    clear hr2 hb2 H35 H36
    go_wp2_with fail
    refine HW.out.mono ?_
    rintro e w3 ⟨rfl, hp⟩
    have HP := hid hp
    clear hp
    go_wp2_with fail
    go_ret
    rw [HC.out]
    exact ⟨rfl, HP.out⟩
end Go.Proofs.YtjggdecjnnpjaaaGreat

