/- Cut. -/
import Derived.Test.YtlgaianlkbaedaaH28
import Derived.Test.YtlgaianlkbaedaaH29
namespace Go.Proofs.Ytlgaianlkbaedaa
open Go.RowKit Go.Maps Go.Sort
set_option maxRecDepth 100000
set_option linter.unusedSimpArgs false
set_option linter.unusedVariables false

/-- Where seek ends, whatever the end. -/
def SeekAny (P : Mk → Bool) (base : Nat) (m : Mk) (ix : List Mk) (l : List UInt8) (R : Mk × List UInt8) : Prop := P m = false ∧ R = (m, []) ∨ P m = true ∧ SeekAt P base ix l R
theorem seek_44 {w : World} {B q a base name m ix size fs} (h : SD w B q a base name m ix size fs) (hn : name.size ≤ maxLen) (g : Nat) (N : Int) (hg : w.cell? ⟨g, 0, none⟩ = some (.int .i64 N)) (hbase : base ≤ 1000000000) (hlen : ix.length ≤ 5000) {l : List UInt8} (hl : l = abytes fs name.data.toList) (hix : ∀ x ∈ ix, x.base ≤ 1000000000 ∧ x.at_ ≤ l.length ∧ x.nth ≤ 4096) :
    Calls Try.prog 39 #[.pointer (some ⟨q, 0, none⟩), .func (.func 44) #[] #[.pointer (some ⟨g, 0, none⟩)]] w fun e w' => (∃ R, SeekAny (fun x => decide (N < (x.base : Int))) base m ix l R ∧ e = .returned (.agg #[.int .i64 (R.1.base : Int), .int .i64 (R.1.at_ : Int), .int .i64 (R.1.nth : Int), .string (strOf R.2)])) ∧ Below w.heap.size w w' := by
  cases hP : decide (N < (m.base : Int)) with
  | false => exact (seek_no_44 h g N hg hP).mono fun e w' ⟨e1, e2⟩ => ⟨⟨(m, []), .inl ⟨hP, rfl⟩, e1⟩, e2⟩
  | true =>
    refine (seek_yes_44 h hn g N hg hP hbase hlen hl hix).mono fun e w' ⟨e1, e2⟩ => ⟨?_, e2⟩
    obtain ⟨R, h1, h2⟩ := e1.elim
    exact ⟨R, .inr ⟨hP, h1⟩, h2⟩
/-- Where Cut stands. -/
structure Ck (w W : World) (q : Nat) (off : Int) : Prop where
  below : Below w.heap.size w W
  bs : W.heap[w.heap.size]? = some (.cells #[.pointer (some ⟨q, 0, none⟩)] 28)
  bo : W.heap[w.heap.size + 1]? = some (.cells #[.int .i64 off] 3)
theorem Ck.laid (w : World) (q : Nat) (off : Int) : Ck w ((w.alloc (.cells #[.pointer (some ⟨q, 0, none⟩)] 28)).alloc (.cells #[.int .i64 off] 3)) q off := by
  have b1 : Below w.heap.size w (w.alloc (.cells #[.pointer (some ⟨q, 0, none⟩)] 28)) := (Below.refl _ _).alloc (Nat.le_refl _) _
  have z1 : (w.alloc (.cells #[.pointer (some ⟨q, 0, none⟩)] 28)).heap.size = w.heap.size + 1 := by simp
  refine ⟨b1.alloc (by omega) _, ?_, ?_⟩
  · rw [Below.heap_alloc _ _ _ (by omega)]
    exact heap_alloc_new _ _
  · rw [← z1]
    exact heap_alloc_new _ _
theorem Ck.lt {w W q off} (h : Ck w W q off) : w.heap.size + 1 < W.heap.size := (Array.getElem?_eq_some_iff.1 h.bo).1
theorem Ck.next {w W W' q off} (h : Ck w W q off) (hb : Below W.heap.size W W') : Ck w W' q off := by
  have := h.lt
  exact ⟨h.below.trans (hb.mono (by omega)), (hb.block _ (by omega)).trans h.bs, (hb.block _ (by omega)).trans h.bo⟩
theorem Ck.vars {w W q off} (h : Ck w W q off) : W.cell? ⟨w.heap.size, 0, none⟩ = some (.pointer (some ⟨q, 0, none⟩)) ∧ W.cell? ⟨w.heap.size + 1, 0, none⟩ = some (.int .i64 off) := ⟨cell_at h.bs rfl, cell_at h.bo rfl⟩
theorem Ck.off4 {w W q off} (h : Ck w W q off) {p : Nat} (hp : w.heap.size + 1 < p) (u0 u1 u2 u3 : Value) : Ck w ((((W.setCell ⟨p, 0, none⟩ u0).setCell ⟨p, 1, none⟩ u1).setCell ⟨p, 2, none⟩ u2).setCell ⟨p, 3, none⟩ u3) q off := by
  have hb : ∀ k, k < p → ((((W.setCell ⟨p, 0, none⟩ u0).setCell ⟨p, 1, none⟩ u1).setCell ⟨p, 2, none⟩ u2).setCell ⟨p, 3, none⟩ u3).heap[k]? = W.heap[k]? := fun k hk => by
    rw [Below.heap_setCell _ ⟨p, 3, none⟩ _ k (by show _ ≠ p; omega)]
    exact three_keep W p k u0 u1 u2 (by omega)
  exact ⟨(((h.below.setCell (by show _ ≤ p; omega) _).setCell (by show _ ≤ p; omega) _).setCell (by show _ ≤ p; omega) _).setCell (by show _ ≤ p; omega) _, (hb _ (by omega)).trans h.bs, (hb _ hp).trans h.bo⟩
/-- Behind the disk's Cut. -/
structure CutMid (w W w' : World) (B : Nat → Prop) (q a base : Nat) (name : ByteArray) (m : Mk) (ix : List Mk) (size : Nat) (fs : List AF) : Prop where
  sda : SDA B w w' q a base name m ix size fs
  name : w'.cell? ⟨q, 1, none⟩ = some (.string name)
  keep : ∀ k, w.heap.size ≤ k → k < W.heap.size → w'.heap[k]? = W.heap[k]?
theorem SD.cut2 {w W : World} {B q a base name m ix size fs} (h : SD w B q a base name m ix size fs) (hb : Below w.heap.size w W) (hn : name.size ≤ maxLen) (i : Int) : Calls Try.prog 28 #[.pointer (some ⟨a, 0, none⟩), .string name, .int .i64 i] W fun e w' => e = .returned (.int .i64 (cutE fs name i : Int)) ∧ CutMid w W w' B q a base name m ix size (cutL fs name i) := by
  obtain ⟨U, S, v, h1, h2, h3, h4⟩ := h
  refine (cutA (h2.under hb) name hn i).mono fun e w' ⟨e1, e2⟩ => ?_
  have hA := SD.onDisk h1 h2 h3 h4 hb e2
  refine ⟨e1, hA, hA.name, fun k k1 k2 => ?_⟩
  obtain ⟨S', _, _, _, hk⟩ := e2
  exact hk.block k k2 (fun hS => by have := h2.below k hS; omega)
theorem ck_search {w : World} {U q a base name m v} {ix : List Mk} (h : SegM w U q a base name m v ix) (gs gt : Nat) (T : Int) (hgs : w.cell? ⟨gs, 0, none⟩ = some (.pointer (some ⟨q, 0, none⟩))) (hgt : w.cell? ⟨gt, 1, none⟩ = some (.int .i64 T)) (hlen : ix.length ≤ 5000) :
    Calls Try.prog 45 #[.int .i64 (ix.length : Int), .func (.func 46) #[] #[.pointer (some ⟨gs, 0, none⟩), .pointer (some ⟨gt, 0, none⟩)]] w fun e w' => ∃ r : Nat, r ≤ ix.length ∧ e = .returned (.int .i64 (r : Int)) ∧ (r = 0 ∨ ∃ x, ix[r - 1]? = some x ∧ 0 < r ∧ decide (T ≤ (x.at_ : Int)) = false) ∧ (∀ x, ix[r]? = some x → decide (T ≤ (x.at_ : Int)) = true) ∧ Below w.heap.size w w' := by
  refine (search_46 ix.length hlen (fun t => match ix[t]? with | some x => decide (T ≤ (x.at_ : Int)) | none => true) _ _ ?_).mono ?_
  · intro t ht W' hb'
    have hx : ix[t]? = some ix[t] := List.getElem?_eq_getElem ht
    rw [hx]
    exact (cut2_any (h.under hb') hlen t ix[t] hx gs gt T ((World.cell?_of_block (hb'.block gs (World.block_lt_of_cell? w _ hgs))).trans hgs) ((World.cell?_of_block (hb'.block gt (World.block_lt_of_cell? w _ hgt))).trans hgt)).mono fun e w' ⟨e1, e2⟩ => ⟨e1, hb'.trans (e2.mono hb'.size)⟩
  · rintro e w' ⟨r, r1, r2, r3, r4, r5⟩
    refine ⟨r, r1, r2, ?_, fun x hx => ?_, r5⟩
    · rcases Nat.eq_zero_or_pos r with h0 | h0
      · exact .inl h0
      · have hx : ix[r - 1]? = some (ix[r - 1]'(by omega)) := List.getElem?_eq_getElem (by omega)
        refine .inr ⟨_, hx, h0, ?_⟩
        rcases r3 with r3 | r3
        · omega
        · rw [hx] at r3; exact r3
    · rcases r4 with r4 | r4
      · have := (List.getElem?_eq_some_iff.1 hx).1; omega
      · rw [hx] at r4; exact r4
set_option maxHeartbeats 6400000 in
theorem scut_yes {w : World} {B q a base name m ix size fs} (h : SD w B q a base name m ix size fs) (hn : name.size ≤ maxLen) (off : Int) (ho : (base : Int) ≤ off) (hbase : base ≤ 1000000000) (hlen : ix.length ≤ 5000) {l : List UInt8} (hl : l = abytes fs name.data.toList) (hix : ∀ x ∈ ix, x.base ≤ 1000000000 ∧ x.at_ ≤ l.length ∧ x.nth ≤ 4096) (hE : ∀ R, SeekAny (fun x => decide (off < (x.base : Int))) base m ix l R → cutE fs name (R.1.at_ : Int) = 0) :
    Calls Try.prog 22 #[.pointer (some ⟨q, 0, none⟩), .int .i64 off] w fun e w' => e = .returned (.int .i64 0) ∧ ∃ R n, SeekAny (fun x => decide (off < (x.base : Int))) base m ix l R ∧ n ≤ ix.length ∧ (n = 0 ∨ ∃ x, ix[n - 1]? = some x ∧ 0 < n ∧ decide ((R.1.at_ : Int) ≤ (x.at_ : Int)) = false) ∧ (∀ x, ix[n]? = some x → decide ((R.1.at_ : Int) ≤ (x.at_ : Int)) = true) ∧ SDA B w w' q a base name R.1 (ix.take n) size (cutL fs name (R.1.at_ : Int)) := by
  have hqB : q < w.heap.size := by obtain ⟨U, S, v, h1, h2, h3, h4⟩ := h; exact h1.below q h1.self
  have HSD := hid h
  have HE := hid hE
  have HL := hid hl
  have HC0 := hid (Ck.laid w q off)
  have ho' : ¬ off < (base : Int) := by omega
  have H39 : Hid (∀ W, Ck w W q off → Calls Try.prog 39 #[.pointer (some ⟨q, 0, none⟩), .func (.func 44) #[] #[.pointer (some ⟨w.heap.size + 1, 0, none⟩)]] W fun e w' => (∃ R, SeekAny (fun x => decide (off < (x.base : Int))) base m ix l R ∧ e = .returned (.agg #[.int .i64 (R.1.base : Int), .int .i64 (R.1.at_ : Int), .int .i64 (R.1.nth : Int), .string (strOf R.2)])) ∧ Below W.heap.size W w') := fun W hc => seek_44 (h.under hc.below) hn (w.heap.size + 1) off hc.vars.2 hbase hlen hl hix
  clear h hE hl
  go_enter Try.func22, Try.ntmps22
  go_wp2_with fail
  generalize (w.alloc (.cells #[.pointer (some ⟨q, 0, none⟩)] 28)).alloc (.cells #[.int .i64 off] 3) = W0 at *
  obtain ⟨s0, s1⟩ := HC0.out.vars
  obtain ⟨k20, oa, cap, k26⟩ := HSD.out.cs2 HC0.out.below
  try go_quiet (fail)
  go_wp2_with fail
  refine (H39.out _ (HC0.out.next (below_drewN (Below.refl _ _) _))).mono ?_
  rintro e w1 ⟨⟨R, hR, rfl⟩, hb1⟩
  have HR := hid hR
  have hE0 := HE.out R hR
  have HC1 := hid ((HC0.out.next (below_drewN (Below.refl _ _) _)).next hb1)
  clear hR hb1 s0 s1 k20 k26 HC0 H39 HE
  have HC2 := hid (HC1.out.next ((Below.refl _ _).alloc (Nat.le_refl _) (.cells #[.int .i64 (R.1.base : Int), .int .i64 (R.1.at_ : Int), .int .i64 (R.1.nth : Int), .string (strOf R.2)] 83)))
  have HT2 := hid (heap_alloc_new w1 (.cells #[.int .i64 (R.1.base : Int), .int .i64 (R.1.at_ : Int), .int .i64 (R.1.nth : Int), .string (strOf R.2)] 83))
  have hp := HC1.out.lt
  clear HC1
  go_wp2_with fail
  generalize w1.heap.size = p at *
  generalize w1.alloc (.cells #[.int .i64 (R.1.base : Int), .int .i64 (R.1.at_ : Int), .int .i64 (R.1.nth : Int), .string (strOf R.2)] 83) = W2 at *
  obtain ⟨s0, s1⟩ := HC2.out.vars
  have kn := HSD.out.name HC2.out.below
  obtain ⟨t0, t1, t2, t3⟩ := cells4 HT2.out
  have H32 : Hid (∀ W, Below w.heap.size w W → Calls Try.prog 32 #[.pointer (some ⟨q, 0, none⟩)] W fun e w' => e = .returned (.pointer (some ⟨a, 0, none⟩)) ∧ w' = W) := fun W hb => HSD.out.disk hb
  have H28 : Hid (∀ W, Below w.heap.size w W → Calls Try.prog 28 #[.pointer (some ⟨a, 0, none⟩), .string name, .int .i64 (R.1.at_ : Int)] W fun e w' => e = .returned (.int .i64 0) ∧ CutMid w W w' B q a base name m ix size (cutL fs name (R.1.at_ : Int))) := fun W hb => by
    have h := HSD.out.cut2 hb hn (R.1.at_ : Int)
    rw [hE0] at h
    exact h
  go_region_held3 (fun w' => w'.cell? ⟨w.heap.size, 0, none⟩ = some (.pointer (some ⟨q, 0, none⟩)) ∧ w'.cell? ⟨q, 1, none⟩ = some (.string name) ∧ w'.cell? ⟨p, 1, none⟩ = some (.int .i64 (R.1.at_ : Int))) (go_keep)
    (first
    | (go_at_call 32; refine (H32.out _ (by first | exact HC2.out.below | exact HC2.out.below.drew)).mono ?_; rintro e w0 ⟨rfl, rfl⟩)
    | (go_at_call 28; refine (H28.out _ (by first | exact HC2.out.below | exact HC2.out.below.drew | exact HC2.out.below.drew.drew)).mono ?_; rintro e w5 ⟨rfl, h5⟩; have HM5 : Hid (CutMid w W2 w5 B q a base name m ix size (cutL fs name (R.1.at_ : Int))) := ⟨h5.sda, h5.name, h5.keep⟩; have u0 := cell_at ((HM5.out.keep _ (Nat.le_refl _) (by have := HC2.out.lt; omega)).trans HC2.out.bs) (j := 0) rfl; have u1 := HM5.out.name; have HT5 := hid ((HM5.out.keep p (by omega) (Array.getElem?_eq_some_iff.1 HT2.out).1).trans HT2.out); obtain ⟨v0, v1, v2, v3⟩ := cells4 HT5.out; clear h5)
    | fail)
  all_goals
    obtain ⟨B5, ⟨U5, S5, v5, g1, g2, g3, g4⟩, b2, b3, b4⟩ := HM5.out.sda
    obtain ⟨oa5, cap5, rfl, hc1, hc2, _⟩ := g1.shape
    have k6 := g1.c.2.2.2.2.2.2
    have HG := hid (And.intro g2 (And.intro g3 (And.intro g4 (And.intro b2 (And.intro b3 b4)))))
    have HS5 := hid g1
    have H45 := hid (ck_search g1 w.heap.size p (R.1.at_ : Int) u0 v1 hlen)
    clear g1 g2 g3 g4 b2 b3 b4
    go_wp2_with fail
    refine H45.out.mono ?_
    rintro e w6 ⟨n, hnl, rfl, hn1, hn2, hb6⟩
    have HN := hid (And.intro hn1 hn2)
    have HS6 := hid (HS5.out.under hb6)
    have HB6 := hid hb6
    have x0 := (World.cell?_of_block (hb6.block w.heap.size (World.block_lt_of_cell? _ _ u0))).trans u0
    have x1 := (World.cell?_of_block (hb6.block p (World.block_lt_of_cell? _ _ v0))).trans v0
    have x2 := (World.cell?_of_block (hb6.block p (World.block_lt_of_cell? _ _ v1))).trans v1
    have x3 := (World.cell?_of_block (hb6.block p (World.block_lt_of_cell? _ _ v2))).trans v2
    have x6 := HS6.out.c.2.2.2.2.2.2
    have x7 := HS6.out.c.2.2.2.1
    have x8 := HS6.out.c.2.2.2.2.1
    have x9 := HS6.out.c.2.2.2.2.2.1
    have f3 := HS6.out.f 3
    have f4 := HS6.out.f 4
    have f5 := HS6.out.f 5
    have f6 := HS6.out.f 6
    have hnc : (n : Int) ≤ (cap5 : Int) := by omega
    have hnp : ¬ q = p := by omega
    have hnp' : ¬ p = q := by omega
    have hnw : ¬ q = w.heap.size := by omega
    have hnw' : ¬ w.heap.size = q := by omega
    clear hn1 hn2 hb6 k6 u0 u1 v0 v1 v2 v3 t0 t1 t2 t3 kn s0 s1 H45 H32 H28
    go_wp2_with fail
    go_region
    all_goals
      go_wp2_with fail
      go_ret
      have hc := HS5.out.cutRow HB6.out n hnl R.1
      obtain ⟨g2, g3, g4, b2, b3, b4⟩ := HG.out
      have hb4 := b4.size
      refine ⟨rfl, R, n, HR.out, hnl, HN.out.1, HN.out.2, B5, ⟨U5, S5, .slice oa5 n cap5, hc.1.under (Below.refl _ _).drew, g2.beside (T := U5) ⟨hc.2.os, hc.2.tape, hc.2.output, hc.2.size, hc.2.block⟩ g3, g3, g4⟩, b2, b3, ?_⟩
      exact b4.trans (T := U5) ⟨hc.2.os, hc.2.tape, hc.2.output, hc.2.size, hc.2.block⟩ (fun x hx => b2 x ((g4 x).2 (.inl hx)))
end Go.Proofs.Ytlgaianlkbaedaa

