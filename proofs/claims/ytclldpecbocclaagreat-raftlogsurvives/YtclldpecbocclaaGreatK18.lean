/- unknown. -/
import Derived.Test.YtclldpecbocclaaGreatK17
import Derived.Test.YtclldpecbocclaaGreatK14
import Derived.Test.YtclldpecbocclaaGreatK7
import Derived.Test.YtclldpecbocclaaGreatK10
import Derived.Test.YtclldpecbocclaaGreatK16
namespace Go.Proofs.YtclldpecbocclaaGreat
open Go.RowKit Go.Maps
set_option maxRecDepth 100000
set_option linter.unusedSimpArgs false
set_option linter.unusedVariables false

theorem unkE_step {s : LSt} {k : Nat} {l : List Et} {x : Et} (hx : l[k]? = some x) : unkE s (l.drop k) = if knownE s x = true then unkE s (l.drop (k + 1)) else l.drop k := by
  have hk : k < l.length := (List.getElem?_eq_some_iff.1 hx).1
  have e : l.drop k = x :: l.drop (k + 1) := by
    rw [List.drop_eq_getElem_cons hk]
    congr 1
    exact (List.getElem?_eq_some_iff.1 hx).2
  rw [e]
  rfl
/-- What unknown answers. -/
def UnkPost (s : LSt) (oa : Option Addr) (cap : Nat) (l : List Et) (e : Ending) : Prop :=
  (unkE s l = [] ∧ e = .returned (.slice none 0 0)) ∨ ∃ g o k, oa = some ⟨g, o, none⟩ ∧ k < l.length ∧ unkE s l = l.drop k ∧ e = .returned (.slice (some ⟨g, o + k * 3, none⟩) (l.length - k) (cap - k))
set_option maxHeartbeats 1600000 in
theorem unk_any {w : World} {U q a v s} (hM : LogM w U q a v s) (hb : LB s) {oa : Option Addr} {cap : Nat} {l : List Et} (h : EAt w oa l) (hl : l.length ≤ 1000000) (hc : l.length ≤ cap) (hcm : cap ≤ maxLen) :
    Calls Tryz.prog 24 #[.pointer (some ⟨q, 0, none⟩), .slice oa l.length cap] w fun e w' => UnkPost s oa cap l e ∧ Below w.heap.size w w' := by
  have HE := hid h
  have HM := hid hM
  have HLB := hid hb
  have i0 := hb.i0
  have i1 := hb.i1
  unfold maxLen at hcm
  clear h hM hb
  go_enter Tryz.func24, Tryz.ntmps24
  go_wp2_with fail
  go_loopg [11] l.length (fun kx s11 wr => ∃ k : Nat, k ≤ l.length ∧ l.length - k ≤ kx ∧ s11 = .int .i64 (k : Int) ∧ Hid (Below w.heap.size w wr ∧ unkE s l = unkE s (l.drop k)))
  case atStart => exact ⟨0, by omega, by omega, rfl, Below.refl _ _, rfl⟩
  case round =>
    obtain ⟨k, hk, hkx, rfl, HI⟩ := hrel
    by_cases hlt : k < l.length
    · have hlt' : (k : Int) < (l.length : Int) := by omega
      obtain ⟨g, o, rfl, hg, _⟩ := HE.out (by omega)
      have hx : l[k]? = some l[k] := List.getElem?_eq_getElem hlt
      obtain ⟨r0, r1, r2⟩ := (HE.out.under HI.out.1).at_ k l[k] hx
      have HS : Hid (unkE s l = if knownE s l[k] = true then unkE s (l.drop (k + 1)) else l.drop k) := by
        show _ = _
        rw [HI.out.2, unkE_step hx]
      have HB := hid HI.out.1
      clear hx
      generalize l[k] = x at *
      have HK : Hid (knownE s x = (decide (x.i ≤ s.snap.i) || (match atE s x.i with | some y => decide (y.t = x.t) | none => false))) := rfl
      obtain ⟨t, i, d⟩ := x
      simp only at *
      have hM1 := HM.out.under (HB.out.alloc HB.out.size (.cells #[.int .i64 t, .int .i64 i, .string (strOf d)] 37))
      have HBA := hid (HB.out.alloc HB.out.size (.cells #[.int .i64 t, .int .i64 i, .string (strOf d)] 37))
      have c3 := hM1.c.c3
      have H15 : Hid (∀ n, Calls Tryz.prog 14 #[.pointer (some ⟨q, 0, none⟩), .int .i64 i] ((wr.alloc (.cells #[.int .i64 t, .int .i64 i, .string (strOf d)] 37)).drewN n) fun e w' => e = .returned (.tuple #[evalue ((atE s i).getD e0), .bool (atE s i).isSome]) ∧ Below (wr.alloc (.cells #[.int .i64 t, .int .i64 i, .string (strOf d)] 37)).heap.size (wr.alloc (.cells #[.int .i64 t, .int .i64 i, .string (strOf d)] 37)) w') := fun n => (at_any (hM1.under (below_drewN (Below.refl _ _) n)) HLB.out i).mono fun e w' ⟨e1, e2⟩ => ⟨e1, (below_drewN (Below.refl _ _) n).trans e2⟩
      obtain ⟨n0, n1, n2⟩ := new3 wr (.int .i64 t) (.int .i64 i) (.string (strOf d)) 37
      clear hM1
      by_cases b1 : i ≤ s.snap.i
      · have hb1 : decide (i ≤ s.snap.i) = true := decide_eq_true b1
        have HR : Hid (unkE s l = unkE s (l.drop (k + 1))) := by
          have h1 := HS.out
          rw [if_pos (by rw [HK.out, hb1]; rfl)] at h1
          exact h1
        generalize s.snap.i = I at *
        go_wp2_with fail
        go_quiet (fail)
        go_wp2_with fail
        go_roundg (l.length - (k + 1))
        case measure => omega
        case rel => exact ⟨k + 1, by omega, Nat.le_refl _, by go_num, below_drewN HBA.out _, HR.out⟩
      · have hb1 : decide (i ≤ s.snap.i) = false := decide_eq_false b1
        rw [hb1, Bool.false_or] at HK
        have hkc : (k : Int) ≤ (cap : Int) := by omega
        have hkl2 : (k : Int) ≤ (l.length : Int) := by omega
        unfold evalue at H15
        cases hA : atE s i with
        | none =>
          rw [hA] at HK H15
          have HR : Hid (unkE s l = l.drop k) := by
            have h1 := HS.out
            rw [if_neg (by rw [HK.out]; simp)] at h1
            exact h1
          clear hA
          generalize s.snap.i = I at *
          go_wp2_with fail
          go_quiet (fail)
          go_wp2_with (go_at_call 14; refine (H15.out _).mono ?_; rintro e w2 ⟨rfl, hb2⟩; obtain ⟨m0, m1, m2, _, _, _⟩ := blk3 (kept_blk hb2); have HB2 := hid (HBA.out.trans (hb2.mono HBA.out.size)); clear hb2)
          go_ret
          exact ⟨.inr ⟨g, o, k, rfl, hlt, HR.out, rfl⟩, HB2.out.alloc HB2.out.size _⟩
        | some y =>
          rw [hA] at HK H15
          simp only [Option.getD_some, Option.isSome_some] at H15
          clear hA
          obtain ⟨t', i', d'⟩ := y
          simp only at *
          by_cases ht : t' = t
          · have HR : Hid (unkE s l = unkE s (l.drop (k + 1))) := by
              have h1 := HS.out
              rw [if_pos (by rw [HK.out]; exact decide_eq_true ht)] at h1
              exact h1
            have hne : (t' != t) = false := by simp [ht]
            clear ht
            generalize s.snap.i = I at *
            go_wp2_with fail
            go_quiet (fail)
            go_wp2_with (go_at_call 14; refine (H15.out _).mono ?_; rintro e w2 ⟨rfl, hb2⟩; obtain ⟨m0, m1, m2, _, _, _⟩ := blk3 (kept_blk hb2); have HB2 := hid (HBA.out.trans (hb2.mono HBA.out.size)); clear hb2)
            go_roundg (l.length - (k + 1))
            case measure => omega
            case rel => exact ⟨k + 1, by omega, Nat.le_refl _, by go_num, HB2.out.alloc HB2.out.size _, HR.out⟩
          · have HR : Hid (unkE s l = l.drop k) := by
              have h1 := HS.out
              rw [if_neg (by rw [HK.out]; simpa using ht)] at h1
              exact h1
            have hne : (t' != t) = true := by simp [ht]
            clear ht
            generalize s.snap.i = I at *
            go_wp2_with fail
            go_quiet (fail)
            go_wp2_with (go_at_call 14; refine (H15.out _).mono ?_; rintro e w2 ⟨rfl, hb2⟩; obtain ⟨m0, m1, m2, _, _, _⟩ := blk3 (kept_blk hb2); have HB2 := hid (HBA.out.trans (hb2.mono HBA.out.size)); clear hb2)
            go_ret
            exact ⟨.inr ⟨g, o, k, rfl, hlt, HR.out, rfl⟩, HB2.out.alloc HB2.out.size _⟩
    · have hlt' : ¬ (k : Int) < (l.length : Int) := by omega
      have HR : Hid (unkE s l = []) := by
        show _ = _
        rw [HI.out.2, List.drop_of_length_le (by omega)]
        rfl
      go_wp2_with fail
      go_ret
      exact ⟨.inl ⟨HR.out, rfl⟩, HI.out.1⟩
end Go.Proofs.YtclldpecbocclaaGreat

/- From. -/
namespace Go.Proofs.YtclldpecbocclaaGreat
open Go.RowKit Go.Maps
set_option maxRecDepth 100000
set_option linter.unusedSimpArgs false
set_option linter.unusedVariables false

def fromE (s : LSt) (idx most : Int) : List Et := if (atE s idx).isSome = true ∧ 1 ≤ most then (s.list.drop (idx - (s.snap.i + 1)).toNat).take most.toNat else []
set_option maxHeartbeats 1600000 in
theorem from_any {w : World} {U q a v s} (h : LogM w U q a v s) (hb : LB s) (idx most : Int) :
    Calls Tryz.prog 19 #[.pointer (some ⟨q, 0, none⟩), .int .i64 idx, .int .i64 most] w fun e w' => ∃ v', e = .returned v' ∧ EL w' v' (fromE s idx most) ∧ (∀ k, v'.ownBlock = some k → w.heap.size ≤ k) ∧ Below w.heap.size w w' := by
  have H15 := hid (at_any h hb idx)
  have HF : Hid (fromE s idx most = if (atE s idx).isSome = true ∧ 1 ≤ most then (s.list.drop (idx - (s.snap.i + 1)).toNat).take most.toNat else []) := rfl
  unfold evalue at H15
  cases hA : atE s idx with
  | none =>
    rw [hA] at H15 HF
    simp only [Option.getD_none, Option.isSome_none, Bool.false_eq_true, false_and, if_false] at H15 HF
    clear hA h
    go_enter Tryz.func19, Tryz.ntmps19
    go_wp2_with (go_at_call 14; refine H15.out.mono ?_; rintro e w2 ⟨rfl, hb2⟩; have HB2 := hid hb2; clear hb2)
    go_ret
    exact ⟨_, rfl, by rw [HF.out]; exact EL.nil _, (by intro k hk; cases hk), HB2.out.alloc HB2.out.size _⟩
  | some y =>
    obtain ⟨k, hk, hkl, hx, hkt⟩ := atE_some hA
    rw [hA] at H15 HF
    rw [hkt] at HF
    simp only [Option.getD_some, Option.isSome_some, true_and] at H15 HF
    obtain ⟨t', i', d'⟩ := y
    simp only at *
    by_cases hm : 1 ≤ most
    · rw [if_pos hm] at HF
      have hm' : ¬ most < 1 := by omega
      obtain ⟨oa, cap, rfl, hcap, hcm, hnn, hoa⟩ := h.ents.shape
      obtain ⟨g, rfl⟩ := hoa (by omega)
      have i0 := hb.i0
      have i1 := hb.i1
      have hlen := hb.len
      have hw : IntKind.i64.wrap (idx - (s.snap.i + 1)) = (k : Int) := by rw [hk, show s.snap.i + 1 + (k : Int) - (s.snap.i + 1) = (k : Int) by omega]; exact IntWalk.i64_in _ ⟨by omega, by omega⟩
      obtain ⟨M, hM⟩ : ∃ M : Nat, min most ((s.list.length - k : Nat) : Int) = (M : Int) := ⟨(min most ((s.list.length - k : Nat) : Int)).toNat, by omega⟩
      have hML : M ≤ s.list.length - k := by omega
      have HT : Hid ((s.list.drop k).take most.toNat = (s.list.drop k).take M) := by
        show _ = _
        by_cases hc : most.toNat ≤ s.list.length - k
        · have : most.toNat = M := by omega
          rw [this]
        · rw [List.take_of_length_le (by rw [List.length_drop]; omega), List.take_of_length_le (by rw [List.length_drop]; omega)]
      have HC : Hid (∀ W, Below w.heap.size w W → Calls Tryz.prog 39 #[.slice (some ⟨g, k * 3, none⟩) M (cap - k)] W fun e w' => ∃ v', e = .returned v' ∧ EL w' v' ((s.list.drop k).take M) ∧ (∀ k, v'.ownBlock = some k → W.heap.size ≤ k) ∧ Below W.heap.size W w') := fun W hW => by
        have h1 := ((h.under hW).ents.at).drop k
        rw [Nat.zero_add] at h1
        have h2 : EAt W (some ⟨g, k * 3, none⟩) ((s.list.drop k).take M) := fun h0 => by
          obtain ⟨g', o', e, hg, hc⟩ := h1 (by rw [List.length_take] at h0; omega)
          cases e
          refine ⟨g, k * 3, rfl, hg, fun j u hu => hc j u ?_⟩
          rw [flatT_take, List.getElem?_take] at hu
          split at hu
          · exact hu
          · cases hu
        have hl : ((s.list.drop k).take M).length = M := by rw [List.length_take, List.length_drop]; omega
        have h3 := cloneE_any h2 (by omega) (cap - k)
        rw [hl] at h3
        exact h3
      have q14 : Hid (∀ W n, Below w.heap.size w W → Calls Tryz.prog 20 #[.pointer (some ⟨q, 0, none⟩)] (W.drewN n) fun e w' => e = .returned (.int .i64 (s.snap.i + 1)) ∧ w' = W.drewN n) := fun W n hW => (first_any (h.under (below_drewN hW n)) hb).mono fun e w' ⟨e1, e2⟩ => ⟨e1, e2.symm⟩
      have HC5 : Hid (∀ W, Below w.heap.size w W → W.cell? ⟨q, 5, none⟩ = some (.slice (some ⟨g, 0, none⟩) s.list.length cap)) := fun W hW => (h.under hW).c.c5
      have hkc : (k : Int) ≤ (s.list.length : Int) := by omega
      have hkz : (0 : Int) ≤ (k : Int) := by omega
      have hne : ¬ cap = k := by omega
      have hMc : (M : Int) ≤ ((cap - k : Nat) : Int) := by omega
      have hM0 : (0 : Int) ≤ (M : Int) := by omega
      clear h hb hk hkt hx hA hoa hm hnn
      generalize s.snap.i = I at *
      generalize s.list.length = N at *
      go_enter Tryz.func19, Tryz.ntmps19
      go_wp2_with (go_at_call 14; refine H15.out.mono ?_; rintro e w2 ⟨rfl, hb2⟩; have HB2 := hid (hb2.alloc hb2.size (.cells #[.int .i64 t', .int .i64 i', .string (strOf d')] 37)); clear hb2)
      generalize w2.alloc (.cells #[.int .i64 t', .int .i64 i', .string (strOf d')] 37) = W2 at *
      have c5 := HC5.out _ HB2.out
      go_quiet ((go_at_call 20; exact Calls.quiet_of_same (q14.out _ _ HB2.out)))
      go_wp2_with (go_at_call 39; refine (HC.out _ (below_drewN HB2.out _)).mono ?_; rintro e w3 ⟨v3, rfl, h3, ho3, hb3⟩; have H3 := hid h3; have HO3 := hid ho3; have HB3 := hid hb3; clear h3 ho3 hb3)
      go_ret
      have hsz := HB2.out.size
      exact ⟨_, rfl, by rw [HF.out, HT.out]; exact H3.out, fun z hz => Nat.le_trans hsz (HO3.out z hz), HB2.out.trans ((below_drewN (Below.refl _ _) _).trans (HB3.out.mono hsz))⟩
    · rw [if_neg hm] at HF
      have hm' : most < 1 := by omega
      clear hA h hm hk hkt hx hkl
      go_enter Tryz.func19, Tryz.ntmps19
      go_wp2_with (go_at_call 14; refine H15.out.mono ?_; rintro e w2 ⟨rfl, hb2⟩; have HB2 := hid hb2; clear hb2)
      go_ret
      exact ⟨_, rfl, by rw [HF.out]; exact EL.nil _, (by intro k hk; cases hk), HB2.out.alloc HB2.out.size _⟩
end Go.Proofs.YtclldpecbocclaaGreat

/- A log and its disk. -/
namespace Go.Proofs.YtclldpecbocclaaGreat
open Go.RowKit Go.Maps
set_option maxRecDepth 100000
set_option linter.unusedSimpArgs false
set_option linter.unusedVariables false

theorem AfterA.trans2 {S : Nat → Prop} {w w1 w2 : World} {a size : Nat} {l l2 : List AF} (h : AfterA S w w1 a size l) (k : ∀ S', DiskA w1 S' a size l → AfterA S' w1 w2 a size l2) : AfterA S w w2 a size l2 := by
  obtain ⟨S', h1, h2, h3, h4⟩ := h
  obtain ⟨S'', k1, k2, k3, k4⟩ := k S' h1
  have hs := h4.size
  refine ⟨S'', k1, fun x hx => ?_, fun x hx => k3 x (h3 x hx), h4.trans k4 h2⟩
  rcases k2 x hx with h | h
  · exact h2 x h
  · exact .inr (by omega)
theorem AfterA.begun {S : Nat → Prop} {w w1 w2 : World} {a size : Nat} {l : List AF} (hb : Below w.heap.size w w1) (h : AfterA S w1 w2 a size l) : AfterA S w w2 a size l := by
  obtain ⟨S', h1, h2, h3, h4⟩ := h
  have hs := hb.size
  refine ⟨S', h1, fun x hx => ?_, h3, (Keeps.of_below hb).trans h4 (fun x hx => .inl hx)⟩
  rcases h2 x hx with h | h
  · exact .inl h
  · exact .inr (by omega)
/-- A log and its disk, in blocks B. -/
def LD (w : World) (B : Nat → Prop) (q a size : Nat) (s : LSt) : Prop :=
  ∃ U S v, LogM w U q a v s ∧ DiskA w S a size s.fs ∧ (∀ k, S k → ¬ U k) ∧ (∀ k, B k ↔ U k ∨ S k)
/-- What a call leaves of both. -/
def LDA (B : Nat → Prop) (w w' : World) (q a size : Nat) (s : LSt) : Prop :=
  ∃ B', LD w' B' q a size s ∧ (∀ k, B' k → B k ∨ w.heap.size ≤ k) ∧ (∀ k, B k → B' k) ∧ Keeps B w w'
theorem LD.under {w w1 : World} {B q a size s} (h : LD w B q a size s) (hb : Below w.heap.size w w1) : LD w1 B q a size s := by
  obtain ⟨U, S, v, h1, h2, h3, h4⟩ := h
  exact ⟨U, S, v, h1.under hb, h2.under hb, h3, h4⟩
theorem LD.below {w : World} {B q a size s} (h : LD w B q a size s) : ∀ k, B k → k < w.heap.size := fun k hk => by
  obtain ⟨U, S, v, h1, h2, h3, h4⟩ := h
  rcases (h4 k).1 hk with h | h
  · exact h1.below k h
  · exact h2.below k h
theorem LD.beside {w w1 : World} {B T : Nat → Prop} {q a size s} (h : LD w B q a size s) (hk : Keeps T w w1) (hd : ∀ k, B k → ¬ T k) : LD w1 B q a size s := by
  obtain ⟨U, S, v, h1, h2, h3, h4⟩ := h
  exact ⟨U, S, v, h1.beside hk (fun k hU => hd k ((h4 k).2 (.inl hU))), h2.beside hk (fun k hS => hd k ((h4 k).2 (.inr hS))), h3, h4⟩
theorem LDA.same {w w1 : World} {B q a size s} (h : LD w B q a size s) (hb : Below w.heap.size w w1) : LDA B w w1 q a size s :=
  ⟨B, h.under hb, fun k hk => .inl hk, fun k hk => hk, Keeps.of_below hb⟩
/-- The disk's call, then the log's. -/
theorem LDA.of {w w1 w2 : World} {U S : Nat → Prop} {B : Nat → Prop} {q a size s v} {s' : LSt} (hM : LogM w U q a v s) (hd : DiskA w S a size s.fs) (hUS : ∀ k, S k → ¬ U k) (hB : ∀ k, B k ↔ U k ∨ S k)
    (h1 : AfterA S w w1 a size s'.fs) (h2 : LogM w1 U q a v s → LAfter U w1 w2 q a s') : LDA B w w2 q a size s' := by
  obtain ⟨S', g1, g2, g3, g4⟩ := h1
  have hM1 := hM.beside g4 (fun k hU hS => hUS k hS hU)
  obtain ⟨U', v', k1, k2, k3, k4⟩ := h2 hM1
  have hs4 := g4.size
  have hks := k4.size
  have hSU : ∀ k, S' k → ¬ U k := fun k hS hU => by
    rcases g2 k hS with h | h
    · exact hUS k h hU
    · have := hM.below k hU; omega
  have hSU' : ∀ k, S' k → ¬ U' k := fun k hS hU => by
    rcases k2 k hU with h | h
    · exact hSU k hS h
    · have := g1.below k hS; omega
  refine ⟨fun k => U' k ∨ S' k, ⟨U', S', v', k1, g1.beside k4 (fun k hS hU => hSU k hS hU), hSU', fun k => Iff.rfl⟩, fun k hk => ?_, fun k hk => ?_, ?_⟩
  · rcases hk with hk | hk
    · rcases k2 k hk with h | h
      · exact .inl ((hB k).2 (.inl h))
      · exact .inr (by omega)
    · rcases g2 k hk with h | h
      · exact .inl ((hB k).2 (.inr h))
      · exact .inr h
  · rcases (hB k).1 hk with h | h
    · exact .inl (k3 k h)
    · exact .inr (g3 k h)
  · have e1 : Keeps B w w1 := ⟨g4.os, g4.tape, g4.output, g4.size, fun k hk hn => g4.block k hk (fun hS => hn ((hB k).2 (.inr hS)))⟩
    have e2 : Keeps B w1 w2 := ⟨k4.os, k4.tape, k4.output, k4.size, fun k hk hn => k4.block k hk (fun hU => hn ((hB k).2 (.inl hU)))⟩
    exact e1.trans e2 (fun x hx => .inl hx)
theorem LD.lb {w : World} {B q a size s} (h : LD w B q a size s) (hk : LOk s) : LB s := by
  obtain ⟨U, S, v, h1, h2, h3, h4⟩ := h
  have h5 := h2.facts
  refine ⟨hk.srng.2.1.1, hk.srng.2.1.2, ?_⟩
  cases hl : s.hl with
  | false => rw [hk.hl hl]; simp
  | true =>
    have h6 := total_fs (lB s) (sB s) (tB s)
    have h7 : totalA s.fs = totalA (fsOf (lB s) (sB s) (tB s)) := rfl
    have h8 : lB s = some (logB s.list) := by unfold lB; rw [hl]; rfl
    rw [h8] at h6
    simp only [Option.getD_some] at h6
    have h9 := logB_length_ge s.list
    rw [← h8] at h6
    omega
end Go.Proofs.YtclldpecbocclaaGreat

