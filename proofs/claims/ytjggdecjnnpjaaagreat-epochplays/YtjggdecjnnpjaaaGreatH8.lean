/- Cut. -/
import Derived.Test.YtjggdecjnnpjaaaGreatH7
namespace Go.Proofs.YtjggdecjnnpjaaaGreat
open Go.RowKit Go.Maps Go.Sort
set_option maxRecDepth 100000
set_option linter.unusedSimpArgs false
set_option linter.unusedVariables false

set_option maxHeartbeats 400000 in
theorem isNum_any (n : Int) (w : World) : Calls Tryz.prog 30 #[.int .i64 n] w fun e w' => e = .returned (.bool (inB n)) ∧ w' = w := by
  have HN : Hid (inB n = (decide (0 ≤ n) && decide (n ≤ 1000000000))) := rfl
  by_cases h1 : 0 ≤ n
  · by_cases h2 : n ≤ 1000000000
    · rw [decide_eq_true h1, decide_eq_true h2] at HN
      go_enter Tryz.func30, Tryz.ntmps30
      go_wp2
      go_ret
      exact ⟨by rw [HN.out]; rfl, rfl⟩
    · rw [decide_eq_true h1, decide_eq_false h2] at HN
      go_enter Tryz.func30, Tryz.ntmps30
      go_wp2
      go_ret
      exact ⟨by rw [HN.out]; rfl, rfl⟩
  · rw [decide_eq_false h1] at HN
    go_enter Tryz.func30, Tryz.ntmps30
    go_wp2
    go_ret
    exact ⟨by rw [HN.out]; rfl, rfl⟩

/-- What a call makes that wishes for entries, or for an error. -/
def wishE (size : Nat) (fs : List AF) (name : ByteArray) (l : List (Int × Int)) (W : Nat × List (Int × Int)) : Nat := if W.1 = 0 then keepE size fs name l W.2 else W.1
def wishL (size : Nat) (fs : List AF) (name : ByteArray) (l : List (Int × Int)) (W : Nat × List (Int × Int)) : List AF := if W.1 = 0 then keepL size fs name l W.2 else fs
def wishW (size : Nat) (fs : List AF) (name : ByteArray) (l : List (Int × Int)) (W : Nat × List (Int × Int)) : List (Int × Int) := if W.1 = 0 then keptW size fs name l W.2 else l
def cutC (l : List (Int × Int)) (o : Int) : Nat × List (Int × Int) := if inB o then (0, cutW l o) else (1, l)
def delC (l : List (Int × Int)) (o : Int) : Nat × List (Int × Int) := if inB o then (0, delW l o) else (1, l)
theorem wish_same (size : Nat) (fs : List AF) (name : ByteArray) (l : List (Int × Int)) : wishE size fs name l (0, l) = 0 ∧ wishL size fs name l (0, l) = fs ∧ wishW size fs name l (0, l) = l := by
  unfold wishE wishL wishW keptW keepE keepL
  simp
theorem wish_err (size : Nat) (fs : List AF) (name : ByteArray) (l l' : List (Int × Int)) (c : Nat) (hc : c ≠ 0) : wishE size fs name l (c, l') = c ∧ wishL size fs name l (c, l') = fs ∧ wishW size fs name l (c, l') = l := by
  unfold wishE wishL wishW
  simp [hc]
theorem wish_ok (size : Nat) (fs : List AF) (name : ByteArray) (l l' : List (Int × Int)) : wishE size fs name l (0, l') = keepE size fs name l l' ∧ wishL size fs name l (0, l') = keepL size fs name l l' ∧ wishW size fs name l (0, l') = keptW size fs name l l' := ⟨rfl, rfl, rfl⟩
theorem keep_cda {w W w' : World} {B U S U0 : Nat → Prop} {q a name l size fs} (h4 : ∀ k, B k ↔ U k ∨ S k) (hb : Below w.heap.size w W) (hU0 : ∀ k, U0 k → w.heap.size ≤ k) (h : KeepPost U S U0 W w' q a name l size fs) : CDA B w w' q a name l size fs := by
  obtain ⟨U', S', v, g1, g2, g3, g4, g5, g6⟩ := h
  have hs := hb.size
  refine ⟨fun k => U' k ∨ S' k, ⟨U', S', v, g1, g2, g3, fun k => Iff.rfl⟩, fun k hk => ?_, fun k hk => g5 k ((h4 k).1 hk), (Keeps.of_below hb).trans g6 (fun x hx => .inl ((h4 x).2 hx))⟩
  rcases g4 k hk with h | h | h
  · exact .inl ((h4 k).2 h)
  · exact .inr (hU0 k h)
  · exact .inr (by omega)
/-- What a call of the cache leaves. -/
def CallPost (B : Nat → Prop) (w : World) (q a : Nat) (name : ByteArray) (l : List (Int × Int)) (size : Nat) (fs : List AF) (X : Nat × List (Int × Int)) (e : Ending) (w' : World) : Prop :=
  e = .returned (.int .i64 (wishE size fs name l X : Int)) ∧ CDA B w w' q a name (wishW size fs name l X) size (wishL size fs name l X)
theorem call_err {B : Nat → Prop} {w w' : World} {q a name l size fs} (h : CD w B q a name l size fs) (hb : Below w.heap.size w w') (l' : List (Int × Int)) (c : Nat) (hc : c ≠ 0) : CallPost B w q a name l size fs (c, l') (.returned (.int .i64 (c : Int))) w' := by
  obtain ⟨e1, e2, e3⟩ := wish_err size fs name l l' c hc
  unfold CallPost
  rw [e1, e2, e3]
  exact ⟨rfl, CDA.same h hb⟩
theorem call_none {B : Nat → Prop} {w w' : World} {q a name l size fs} (h : CD w B q a name l size fs) (hb : Below w.heap.size w w') : CallPost B w q a name l size fs (0, l) (.returned (.int .i64 0)) w' := by
  obtain ⟨e1, e2, e3⟩ := wish_same size fs name l
  unfold CallPost
  rw [e1, e2, e3]
  exact ⟨rfl, CDA.same h hb⟩
/-- keep at the end of a call: of entries that lie in the cache's own row, or in a new one. -/
theorem CD.keep {w W : World} {B : Nat → Prop} {q a name l size fs} (h : CD w B q a name l size fs) (hk : EOk l) (hn : name.size ≤ maxLen) (hb : Below w.heap.size w W) {v' : Value} {l' : List (Int × Int)} (hk' : EOk l')
    (he : ∀ v, w.cell? ⟨q, 2, none⟩ = some v → EL w v l → EL W v' l' ∧ ∀ k, v'.ownBlock = some k → v.ownBlock = some k ∨ w.heap.size ≤ k) :
    Calls Tryz.prog 33 #[.pointer (some ⟨q, 0, none⟩), v'] W fun e w' => CallPost B w q a name l size fs (0, l') e w' := by
  obtain ⟨U, S, v, h1, h2, h3, h4⟩ := h
  obtain ⟨he1, he2⟩ := he v h1.c.2.2 h1.ents
  have hq := h1.below q h1.self
  refine (keep_any (U0 := fun k => w.heap.size ≤ k ∧ k < W.heap.size) (h1.under hb) (h2.under hb) h3 hk.few hn he1 hk' (fun k hk => ?_) (fun k hk => ⟨hk.2, fun hS => ?_⟩)).mono ?_
  · rcases he2 k hk with h | h
    · exact ⟨.inl (h1.own k h).1, (h1.own k h).2⟩
    · exact ⟨.inr ⟨h, he1.lt k hk⟩, by omega⟩
  · have := h2.below k hS; omega
  · rintro e w' ⟨e1, e2⟩
    exact ⟨e1, keep_cda h4 hb (fun k hk => hk.1) e2⟩
theorem CD.q {w : World} {B : Nat → Prop} {q a name l size fs} (h : CD w B q a name l size fs) {W : World} (hb : Below w.heap.size w W) : ∃ oa cap, W.cell? ⟨q, 2, none⟩ = some (.slice oa l.length cap) ∧ w.cell? ⟨q, 2, none⟩ = some (.slice oa l.length cap) ∧ EL W (.slice oa l.length cap) l ∧ l.length ≤ cap ∧ cap ≤ maxLen ∧ (oa = none → cap = 0) ∧ (0 < l.length → ∃ g, oa = some ⟨g, 0, none⟩) := by
  obtain ⟨U, S, v, h1, h2, h3, h4⟩ := h
  obtain ⟨oa, cap, rfl, hcap, hcm, hnn, hoa⟩ := h1.ents.shape
  exact ⟨oa, cap, (h1.under hb).c.2.2, h1.c.2.2, h1.ents.under hb, hcap, hcm, hnn, hoa⟩
theorem box_q {w : World} {v : Value} {T : TypeId} {W : World} (hb : Below (w.heap.size + 1) (w.alloc (.cells #[v] T)) W) : W.cell? ⟨w.heap.size, 0, none⟩ = some v := by
  have h := heap_alloc_new w (.cells #[v] T)
  rw [← hb.block w.heap.size (by omega)] at h
  exact cell_at h (j := 0) rfl

set_option maxHeartbeats 3200000 in
theorem ccut_any {w : World} {B : Nat → Prop} {q a name l size fs} (h : CD w B q a name l size fs) (hk : EOk l) (hn : name.size ≤ maxLen) (o : Int) :
    Calls Tryz.prog 11 #[.pointer (some ⟨q, 0, none⟩), .int .i64 o] w fun e w' => CallPost B w q a name l size fs (cutC l o) e w' := by
  have H29 := hid (isNum_any o (w.alloc (.cells #[.int .i64 o] 3)))
  have HB := hid ((Below.refl w.heap.size w).alloc (Nat.le_refl _) (.cells #[.int .i64 o] 3))
  have c0 : (w.alloc (.cells #[.int .i64 o] 3)).cell? ⟨w.heap.size, 0, none⟩ = some (.int .i64 o) := cell_at (heap_alloc_new w _) rfl
  have HC : Hid (cutC l o = if inB o then (0, cutW l o) else (1, l)) := rfl
  have HD := hid h
  have HK := hid hk
  clear h hk
  cases hI : inB o with
  | false =>
    rw [hI] at H29 HC
    rw [if_neg (by simp)] at HC
    go_enter Tryz.func11, Tryz.ntmps11
    go_wp2_with (go_at_call 30; refine H29.out.mono ?_; rintro e w1 ⟨rfl, rfl⟩)
    go_ret
    rw [HC.out]
    exact call_err HD.out HB.out _ 1 (by omega)
  | true =>
    rw [hI] at H29 HC
    rw [if_pos rfl] at HC
    obtain ⟨oa, cap, k2, kw, HEL, hcap, hcm, hnn, hoa⟩ := HD.out.q HB.out
    have HE := hid HEL
    have hlen := HK.out.few
    have H30 : Hid (∀ W, Below (w.alloc (.cells #[.int .i64 o] 3)).heap.size (w.alloc (.cells #[.int .i64 o] 3)) W → Calls Tryz.prog 31 #[.pointer (some ⟨q, 0, none⟩), .func (.func 37) #[] #[.pointer (some ⟨w.heap.size, 0, none⟩)]] W fun e w' => (∃ r : Nat, e = .returned (.int .i64 (r : Int)) ∧ FoundAt l (fun x => decide (o ≤ x.2)) r) ∧ Below (w.alloc (.cells #[.int .i64 o] 3)).heap.size (w.alloc (.cells #[.int .i64 o] 3)) w') := fun W hb => by
      obtain ⟨U, S, v, h1, h2, h3, h4⟩ := HD.out
      exact (first33 ((h1.under HB.out).under hb) hlen w.heap.size o ((World.cell?_of_block (hb.block _ (by simp))).trans c0)).mono fun e w' ⟨e1, e2⟩ => ⟨e1, hb.trans (e2.mono hb.size)⟩
    have HKp : Hid (∀ W, Below (w.alloc (.cells #[.int .i64 o] 3)).heap.size (w.alloc (.cells #[.int .i64 o] 3)) W → ∀ p u, (w.alloc (.cells #[.int .i64 o] 3)).cell? p = some u → W.cell? p = some u) := fun W hb p u hu => (World.cell?_of_block (hb.block p.block (World.block_lt_of_cell? _ _ hu))).trans hu
    have H32 : Hid (∀ W (r : Nat), Below (w.alloc (.cells #[.int .i64 o] 3)).heap.size (w.alloc (.cells #[.int .i64 o] 3)) W → FoundAt l (fun x => decide (o ≤ x.2)) r → Calls Tryz.prog 33 #[.pointer (some ⟨q, 0, none⟩), .slice oa r cap] W fun e w' => CallPost B w q a name l size fs (0, cutW l o) e w') := fun W r hb hf => by
      have hb' := HB.out.trans (hb.mono HB.out.size)
      refine HD.out.keep HK.out hn hb' (HK.out.cut o) (fun v hv _ => ⟨?_, fun k hk => .inl ?_⟩)
      · rw [← found_cut HK.out hf]
        exact (HE.out.under hb).take r hf.le
      · rw [kw] at hv
        cases hv
        cases oa with
        | none => cases hk
        | some ad => exact hk
    clear HEL hoa
    go_enter Tryz.func11, Tryz.ntmps11
    go_wp2_with (go_at_call 30; refine H29.out.mono ?_; rintro e w1 ⟨rfl, rfl⟩)
    generalize w.alloc (.cells #[.int .i64 o] 3) = W1 at *
    go_wp2_with fail
    go_region_with (first
      | (go_at_call 31; refine (H30.out _ ?_).mono ?_; (first | exact Below.refl _ _ | exact (Below.refl _ _).drew); rintro e w2 ⟨⟨r, rfl, hr⟩, hb2⟩; have p2 := HKp.out _ hb2 _ _ k2; have hrl := hr.le; have hrc : (r : Int) ≤ (cap : Int) := (by omega); have HR := hid hr; clear hr)
      | (go_at_call 33; refine (H32.out _ r ?_ HR.out).mono ?_; (first | exact hb2 | exact hb2.drew); rintro e w3 hpost; obtain ⟨rfl, hcda⟩ := hpost; have HP := hid hcda; clear hcda)
      | fail)
    all_goals
      go_wp2_with fail
      go_ret
      rw [HC.out]
      exact ⟨rfl, HP.out⟩

end Go.Proofs.YtjggdecjnnpjaaaGreat

