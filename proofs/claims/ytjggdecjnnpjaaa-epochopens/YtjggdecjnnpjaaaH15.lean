/- Last, End, All. -/
import Derived.Test.YtjggdecjnnpjaaaH10
import Derived.Test.YtjggdecjnnpjaaaH12
import Derived.Test.YtjggdecjnnpjaaaH14
namespace Go.Proofs.Ytjggdecjnnpjaaa
open Go.RowKit Go.Maps Go.Sort
set_option maxRecDepth 100000
set_option linter.unusedSimpArgs false
set_option linter.unusedVariables false

set_option maxHeartbeats 1600000 in
theorem clast_any {w : World} {B : Nat → Prop} {q a name l size fs} (h : CD w B q a name l size fs) (hlen : l.length ≤ 200) :
    Calls Try.prog 18 #[.pointer (some ⟨q, 0, none⟩)] w fun e w' => e = .returned (.int .i64 (lastW l)) ∧ Below w.heap.size w w' := by
  obtain ⟨oa, cap, k2, kw, HEL, hcap, hcm, hnn, hoa⟩ := h.q (Below.refl _ _)
  clear h
  cases hlast : l.getLast? with
  | none =>
    have hl0 : l = [] := List.getLast?_eq_none_iff.1 hlast
    have HL : Hid (lastW l = -1) := by show _ = _; unfold lastW; rw [hlast]
    have hl1 : l.length = 0 := by rw [hl0]; rfl
    clear hl0 hlast hoa HEL kw
    go_enter Try.func18, Try.ntmps18
    go_wp2_with fail
    go_ret
    exact ⟨by rw [HL.out]; rfl, Below.refl _ _⟩
  | some x =>
    have HL : Hid (lastW l = x.1) := by show _ = _; unfold lastW; rw [hlast]
    have hpos : 0 < l.length := by cases l with | nil => simp at hlast | cons y r => simp
    have hxl : l[l.length - 1]? = some x := by rw [← hlast, List.getLast?_eq_getElem?]
    obtain ⟨g, rfl⟩ := hoa hpos
    obtain ⟨r0, r1⟩ := HEL.at_ _ _ hxl
    obtain ⟨n, hn1⟩ : ∃ n, l.length = n + 1 := ⟨l.length - 1, by omega⟩
    have hn2 : l.length - 1 = n := by omega
    rw [hn2] at r0 r1
    have hn3 : IntKind.i64.wrap ((n : Int) + 1 - 1) = (n : Int) := by rw [IntWalk.i64_in _ (by omega)]; omega
    have hn4 : IntKind.i64.wrap (n : Int) = (n : Int) := IntWalk.i64_in _ (by omega)
    have hn5 : (n : Int) < (n : Int) + 1 := by omega
    rw [hn1] at k2
    clear hoa hxl hlast HEL hn2
    have hne : ¬ ((n : Int) + 1 = 0) := by omega
    have hne' : ((n : Int) + 1 == 0) = false := by simp; omega
    go_enter Try.func18, Try.ntmps18
    go_wp2_with fail
    try go_quiet (fail)
    try go_wp2_with fail
    go_ret
    exact ⟨by rw [HL.out]; rfl, by first | exact Below.refl _ _ | exact (Below.refl _ _).drew | exact below_drewN (Below.refl _ _) _⟩

end Go.Proofs.Ytjggdecjnnpjaaa

/- Last, End, All. -/
namespace Go.Proofs.Ytjggdecjnnpjaaa
open Go.RowKit Go.Maps Go.Sort
set_option maxRecDepth 100000
set_option linter.unusedSimpArgs false
set_option linter.unusedVariables false

set_option maxHeartbeats 3200000 in
theorem cend_any {w : World} {B : Nat → Prop} {q a name l size fs} (h : CD w B q a name l size fs) (hk : EOk l) (e next : Int) :
    Calls Try.prog 21 #[.pointer (some ⟨q, 0, none⟩), .int .i64 e, .int .i64 next] w fun en w' => en = .returned (.tuple #[.int .i64 (endW l e next).1, .int .i64 (endW l e next).2]) ∧ Below w.heap.size w w' := by
  have HB := hid ((Below.refl w.heap.size w).alloc (Nat.le_refl _) (.cells #[.int .i64 e] 3))
  have c0 : (w.alloc (.cells #[.int .i64 e] 3)).cell? ⟨w.heap.size, 0, none⟩ = some (.int .i64 e) := cell_at (heap_alloc_new w _) rfl
  have HD := hid h
  have HK := hid hk
  obtain ⟨oa, cap, k2, kw, HEL, hcap, hcm, hnn, hoa⟩ := HD.out.q HB.out
  have HE := hid HEL
  have hlen := HK.out.few
  have H30 : Hid (∀ W, Below (w.alloc (.cells #[.int .i64 e] 3)).heap.size (w.alloc (.cells #[.int .i64 e] 3)) W → Calls Try.prog 30 #[.pointer (some ⟨q, 0, none⟩), .func (.func 35) #[] #[.pointer (some ⟨w.heap.size, 0, none⟩)]] W fun en w' => (∃ r : Nat, en = .returned (.int .i64 (r : Int)) ∧ FoundAt l (fun x => decide (e < x.1)) r) ∧ Below (w.alloc (.cells #[.int .i64 e] 3)).heap.size (w.alloc (.cells #[.int .i64 e] 3)) w') := fun W hb => by
    obtain ⟨U, S, v, h1, h2, h3, h4⟩ := HD.out
    exact (first35 ((h1.under HB.out).under hb) hlen w.heap.size e ((World.cell?_of_block (hb.block _ (by simp))).trans c0)).mono fun e w' ⟨e1, e2⟩ => ⟨e1, hb.trans (e2.mono hb.size)⟩
  have HKp : Hid (∀ W, Below (w.alloc (.cells #[.int .i64 e] 3)).heap.size (w.alloc (.cells #[.int .i64 e] 3)) W → ∀ p u, (w.alloc (.cells #[.int .i64 e] 3)).cell? p = some u → W.cell? p = some u) := fun W hb p u hu => (World.cell?_of_block (hb.block p.block (World.block_lt_of_cell? _ _ hu))).trans hu
  clear HEL h hk
  go_enter Try.func21, Try.ntmps21
  go_wp2_with fail
  generalize w.alloc (.cells #[.int .i64 e] 3) = W1 at *
  refine (H30.out _ ?_).mono ?_
  · first | exact Below.refl _ _ | exact (Below.refl _ _).drew | exact below_drewN (Below.refl _ _) _
  rintro en w2 ⟨⟨r, rfl, hr⟩, hb2⟩
  have hrl := hr.le
  obtain ⟨D0, D1⟩ := found_end (next := next) HK.out hr
  clear hr
  have hbW := hid (HB.out.trans (hb2.mono HB.out.size))
  cases r with
  | zero =>
    have HX := hid (D0 rfl)
    clear D0 D1
    go_wp2_with fail
    go_ret2
    exact ⟨by rw [HX.out]; rfl, hbW.out⟩
  | succ n =>
    have hnl : n < l.length := by omega
    have hx : l[n]? = some l[n] := List.getElem?_eq_getElem hnl
    obtain ⟨DA, DB⟩ := D1 l[n] (by omega) (by simp)
    obtain ⟨g, rfl⟩ := hoa (by omega)
    obtain ⟨r0, r1⟩ := (HE.out.under hb2).at_ n l[n] hx
    generalize l[n] = x at *
    have p2 := HKp.out _ hb2 _ _ k2
    have hn1 : (((n + 1 : Nat) : Int)) = (n : Int) + 1 := by omega
    have hn2 : ¬ ((n : Int) + 1 = 0) := by omega
    have hn3 : (n : Int) < (l.length : Int) := by omega
    have hn5 : IntKind.i64.wrap ((n : Int) + 1 - 1) = (n : Int) := by rw [IntWalk.i64_in _ (by omega)]; omega
    have hn6 : IntKind.i64.wrap (n : Int) = (n : Int) := IntWalk.i64_in _ (by omega)
    have hn7 : ((n : Int) + 1 == 0) = false := by simp; omega
    by_cases hlt : n + 1 < l.length
    · have hlt' : (n : Int) + 1 < (l.length : Int) := by omega
      have hy : l[n + 1]? = some l[n + 1] := List.getElem?_eq_getElem hlt
      have HX := hid (DB _ hy)
      obtain ⟨s0, s1⟩ := (HE.out.under hb2).at_ (n + 1) l[n + 1] hy
      generalize l[n + 1] = y at *
      have hn8 : (0 : Int) ≤ (n : Int) + 1 := by omega
      have hn9 : ((n : Int) + 1).toNat = n + 1 := by omega
      clear D0 D1 DA DB hx hy hoa k2 c0
      try rw [hn1]
      go_wp2_with fail
      go_ret2
      exact ⟨by rw [HX.out]; rfl, hbW.out⟩
    · have hlt' : ¬ (n : Int) + 1 < (l.length : Int) := by omega
      have HX := hid (DA (by omega))
      clear D0 D1 DA DB hx hoa k2 c0
      try rw [hn1]
      go_wp2_with fail
      go_ret2
      exact ⟨by rw [HX.out]; rfl, hbW.out⟩

end Go.Proofs.Ytjggdecjnnpjaaa

/- Open; a cache whose file is what it has. -/
namespace Go.Proofs.Ytjggdecjnnpjaaa
open Go.RowKit Go.Maps Go.Sort
set_option maxRecDepth 100000
set_option linter.unusedSimpArgs false
set_option linter.unusedVariables false

theorem openL_ok {fs : List AF} {name : ByteArray} (h : (openL fs name).2 = 0) : EOk (openL fs name).1 := by
  unfold openL at h ⊢
  by_cases hs : synE fs name = 0
  · rw [if_pos hs] at h ⊢
    exact eload_ok h
  · rw [if_neg hs]
    exact ⟨by simp, by simp, by simp⟩
set_option maxHeartbeats 800000 in
theorem copen_yes {w : World} {S : Nat → Prop} {a size : Nat} {name : ByteArray} {fs : List AF} (hd : DiskA w S a size fs) (hn : name.size ≤ maxLen) (hok : (openL fs name).2 = 0) :
    Calls Try.prog 11 #[.pointer (some ⟨a, 0, none⟩), .string name] w fun e w' => e = .returned (.tuple #[.pointer (some ⟨w.heap.size, 0, none⟩), .int .i64 0]) ∧ (∃ B, CD w' B w.heap.size a name (openL fs name).1 size fs ∧ (∀ k, B k → S k ∨ w.heap.size ≤ k) ∧ (∀ k, S k → B k)) ∧ Below w.heap.size w w' := by
  have hb := (Below.refl w.heap.size w).alloc (Nat.le_refl _) (.cells #[.pointer (some ⟨a, 0, none⟩), .string name, .slice none 0 0] 68)
  have hM : CacheM (w.alloc (.cells #[.pointer (some ⟨a, 0, none⟩), .string name, .slice none 0 0] 68)) (fun k => k = w.heap.size) w.heap.size a name (.slice none 0 0) [] :=
    ⟨fun k hk => by subst hk; simp, rfl, heap_alloc_new w _, EL.nil _, fun k hk => by cases hk⟩
  have HL := hid (load_any hM (hd.under hb) hn)
  have HP : Hid (∀ w', LoadPost (w.alloc (.cells #[.pointer (some ⟨a, 0, none⟩), .string name, .slice none 0 0] 68)) w.heap.size a name (openL fs name).1 w' → (∃ B, CD w' B w.heap.size a name (openL fs name).1 size fs ∧ (∀ k, B k → S k ∨ w.heap.size ≤ k) ∧ (∀ k, S k → B k)) ∧ Below w.heap.size w w') := fun w' hp => by
    obtain ⟨U', v', g1, g2, g3⟩ := hp
    have hU : ∀ k, U' k → w.heap.size ≤ k := fun k hk => by
      rcases g2 k hk with h | h
      · omega
      · simp at h; omega
    have hS := hd.below
    have hsz := hb.size
    have hb2 : Below w.heap.size w w' := hb.trans (g3.below (by omega) (fun k hk => by omega))
    refine ⟨⟨fun k => U' k ∨ S k, ⟨U', S, v', g1, hd.under hb2, fun k h1 h2 => ?_, fun k => Iff.rfl⟩, fun k hk => ?_, fun k hk => .inr hk⟩, hb2⟩
    · have := hS k h1; have := hU k h2; omega
    · rcases hk with hk | hk
      · exact .inr (hU k hk)
      · exact .inl hk
  rw [hok] at HL
  clear hM hb hd
  generalize (openL fs name).1 = L at *
  go_enter Try.func11, Try.ntmps11
  go_wp2_with (go_at_call 27; refine HL.out.mono ?_; rintro e w1 ⟨rfl, hp⟩; have HQ := hid (HP.out _ hp); clear hp)
  go_ret2
  exact ⟨rfl, HQ.out⟩
set_option maxHeartbeats 800000 in
theorem copen_no {w : World} {S : Nat → Prop} {a size : Nat} {name : ByteArray} {fs : List AF} (hd : DiskA w S a size fs) (hn : name.size ≤ maxLen) (hok : (openL fs name).2 ≠ 0) :
    Calls Try.prog 11 #[.pointer (some ⟨a, 0, none⟩), .string name] w fun e w' => e = .returned (.tuple #[.pointer none, .int .i64 (openL fs name).2]) ∧ Below w.heap.size w w' := by
  have hb := (Below.refl w.heap.size w).alloc (Nat.le_refl _) (.cells #[.pointer (some ⟨a, 0, none⟩), .string name, .slice none 0 0] 68)
  have hM : CacheM (w.alloc (.cells #[.pointer (some ⟨a, 0, none⟩), .string name, .slice none 0 0] 68)) (fun k => k = w.heap.size) w.heap.size a name (.slice none 0 0) [] :=
    ⟨fun k hk => by subst hk; simp, rfl, heap_alloc_new w _, EL.nil _, fun k hk => by cases hk⟩
  have HL := hid (load_any hM (hd.under hb) hn)
  have HP : Hid (∀ w', LoadPost (w.alloc (.cells #[.pointer (some ⟨a, 0, none⟩), .string name, .slice none 0 0] 68)) w.heap.size a name (openL fs name).1 w' → Below w.heap.size w w') := fun w' hp => by
    obtain ⟨U', v', g1, g2, g3⟩ := hp
    have hsz := hb.size
    exact hb.trans (g3.below (by omega) (fun k hk => by omega))
  have hne : ((openL fs name).2 != 0) = true := by simp [hok]
  clear hM hb hd hok
  generalize (openL fs name).1 = L at *
  generalize (openL fs name).2 = E at *
  go_enter Try.func11, Try.ntmps11
  go_wp2_with (go_at_call 27; refine HL.out.mono ?_; rintro e w1 ⟨rfl, hp⟩; have HQ := hid (HP.out _ hp); clear hp)
  go_ret2
  exact ⟨rfl, HQ.out⟩

/-- The files of a disk that has nothing but a cache's. -/
def StF (name : ByteArray) (fs : List AF) (l : List (Int × Int)) : Prop := (fs = [] ∧ l = []) ∨ fs = [⟨name.data.toList, ebytes l, (ebytes l).length⟩]
theorem StF.keep {name : ByteArray} (hnm : nameB name = true) {size : Nat} {fs : List AF} {l l' : List (Int × Int)} (h : StF name fs l) (hsz : (ebytes l').length ≤ size) : keepE size fs name l l' = 0 ∧ StF name (keepL size fs name l l') l' := by
  unfold keepE keepL
  by_cases he : l' = l
  · rw [if_pos he, if_pos he, he]
    exact ⟨rfl, h⟩
  · rw [if_neg he, if_neg he]
    have hz := strOf_size (ebytes l')
    have hd := strOf_data (ebytes l')
    rcases h with ⟨rfl, rfl⟩ | rfl
    · have ha : admE [] name = 0 := by unfold admE; rw [if_pos hnm]; simp
      have hf : (strOf (ebytes l')).size ≤ size - totalA [] + (abytes [] name.data.toList).length := by rw [hz]; simp [totalA]; omega
      refine ⟨?_, .inr ?_⟩
      · unfold repE; rw [if_pos ha, if_pos hf]
      · unfold repL; rw [if_pos ⟨ha, hf⟩, hz, hd]; simp [aput, adel, ains]
    · have hlook : alook [(⟨name.data.toList, ebytes l, (ebytes l).length⟩ : AF)] name.data.toList = some ⟨name.data.toList, ebytes l, (ebytes l).length⟩ := by simp [alook]
      have ha : admE [⟨name.data.toList, ebytes l, (ebytes l).length⟩] name = 0 := by unfold admE; rw [if_pos hnm, hlook]; simp
      have hf : (strOf (ebytes l')).size ≤ size - totalA [⟨name.data.toList, ebytes l, (ebytes l).length⟩] + (abytes [⟨name.data.toList, ebytes l, (ebytes l).length⟩] name.data.toList).length := by
        unfold abytes
        rw [hz, hlook]
        simp [totalA]; omega
      refine ⟨?_, .inr ?_⟩
      · unfold repE; rw [if_pos ha, if_pos hf]
      · unfold repL; rw [if_pos ⟨ha, hf⟩, hz, hd]; simp [aput, adel, ains]
theorem StF.open {name : ByteArray} {fs : List AF} {l : List (Int × Int)} (h : StF name fs l) (hk : EOk l) : openL fs name = (l, 0) := by
  unfold openL
  rcases h with ⟨rfl, rfl⟩ | rfl
  · rw [if_neg (by unfold synE alook; simp)]
  · rw [if_pos (by unfold synE alook; simp)]
    have : abytes [⟨name.data.toList, ebytes l, (ebytes l).length⟩] name.data.toList = ebytes l := by unfold abytes alook; simp
    rw [this, eload_ebytes hk]
theorem StF.crash {name : ByteArray} {fs : List AF} {l : List (Int × Int)} (h : StF name fs l) (ks : List Int) : crashL ks 0 fs.length fs = fs := by
  rcases h with ⟨rfl, rfl⟩ | rfl
  · rfl
  · simp [crashL]

/-- A cache whose file is what it has. -/
def CS (w : World) (B : Nat → Prop) (q a : Nat) (name : ByteArray) (l : List (Int × Int)) (size : Nat) : Prop := ∃ fs, CD w B q a name l size fs ∧ StF name fs l ∧ EOk l
/-- Such a cache behind a world's end, apart from blocks X of others. -/
def CF (w0 w : World) (X : Nat → Prop) (q a : Nat) (name : ByteArray) (l : List (Int × Int)) (size : Nat) : Prop :=
  ∃ B, CS w B q a name l size ∧ (∀ k, B k → w0.heap.size ≤ k ∧ ¬ X k) ∧ Below w0.heap.size w0 w ∧ (∀ k, X k → k < w.heap.size)
theorem CF.ok {w0 w : World} {X q a name l size} (h : CF w0 w X q a name l size) : EOk l := by
  obtain ⟨B, ⟨fs, _, _, h⟩, _⟩ := h
  exact h
theorem CF.below {w0 w : World} {X q a name l size} (h : CF w0 w X q a name l size) : Below w0.heap.size w0 w := by
  obtain ⟨B, _, _, h, _⟩ := h
  exact h
theorem CF.under {w0 w w1 : World} {X q a name l size} (h : CF w0 w X q a name l size) (hb : Below w.heap.size w w1) : CF w0 w1 X q a name l size := by
  obtain ⟨B, ⟨fs, h1, h2, h3⟩, h4, h5, h6⟩ := h
  have hs := hb.size
  exact ⟨B, ⟨fs, h1.under hb, h2, h3⟩, h4, h5.trans (hb.mono h5.size), fun k hk => by have := h6 k hk; omega⟩
/-- Other blocks beside it. -/
theorem CF.with {w0 w w1 : World} {X q a name l size} (h : CF w0 w X q a name l size) (hb : Below w.heap.size w w1) (Y : Nat → Prop) (hY : ∀ k, Y k → X k ∨ (w.heap.size ≤ k ∧ k < w1.heap.size)) : CF w0 w1 Y q a name l size := by
  obtain ⟨B, ⟨fs, h1, h2, h3⟩, h4, h5, h6⟩ := h
  have hs := hb.size
  refine ⟨B, ⟨fs, h1.under hb, h2, h3⟩, fun k hk => ⟨(h4 k hk).1, fun hy => ?_⟩, h5.trans (hb.mono h5.size), fun k hk => ?_⟩
  · rcases hY k hy with h | h
    · exact (h4 k hk).2 h
    · have := h1.below k hk; omega
  · rcases hY k hk with h | h
    · have := h6 k h; omega
    · exact h.2
/-- What a call leaves: the cache, and blocks X as they were. -/
def CFA (w0 w w' : World) (X : Nat → Prop) (q a : Nat) (name : ByteArray) (l : List (Int × Int)) (size : Nat) : Prop := CF w0 w' X q a name l size ∧ (∀ k, X k → w'.heap[k]? = w.heap[k]?) ∧ w.heap.size ≤ w'.heap.size
theorem CS.called {w w' : World} {B : Nat → Prop} {q a name l size fs} {X : Nat × List (Int × Int)} (hnm : nameB name = true) (hf : StF name fs l) (hX : X.1 ≠ 0 → X.2 = l) (hk : EOk X.2) (hsz : (ebytes X.2).length ≤ size) {e : Ending} (h : CallPost B w q a name l size fs X e w') :
    e = .returned (.int .i64 (X.1 : Int)) ∧ ∃ B', CS w' B' q a name X.2 size ∧ (∀ k, B' k → B k ∨ w.heap.size ≤ k) ∧ (∀ k, B k → B' k) ∧ Keeps B w w' := by
  obtain ⟨e1, B', h1, h2, h3, h4⟩ := h
  obtain ⟨x, l'⟩ := X
  by_cases hx : x = 0
  · subst hx
    obtain ⟨w1, w2, w3⟩ := wish_ok size fs name l l'
    obtain ⟨k1, k2⟩ := hf.keep hnm (l' := l') hsz
    rw [w1, k1] at e1
    rw [w2, w3] at h1
    have hw : keptW size fs name l l' = l' := by unfold keptW; rw [if_pos k1]
    rw [hw] at h1
    exact ⟨e1, B', ⟨_, h1, k2, hk⟩, h2, h3, h4⟩
  · obtain ⟨w1, w2, w3⟩ := wish_err size fs name l l' x hx
    rw [w1] at e1
    rw [w2, w3] at h1
    have := hX hx
    simp only at this
    subst this
    exact ⟨e1, B', ⟨_, h1, hf, hk⟩, h2, h3, h4⟩
theorem CF.after {w0 w w' : World} {X : Nat → Prop} {B B' : Nat → Prop} {q a name l size} (hB : ∀ k, B k → w0.heap.size ≤ k ∧ ¬ X k) (hb : Below w0.heap.size w0 w) (hX : ∀ k, X k → k < w.heap.size) (h1 : CS w' B' q a name l size) (h2 : ∀ k, B' k → B k ∨ w.heap.size ≤ k) (h4 : Keeps B w w') : CFA w0 w w' X q a name l size := by
  have hs := hb.size
  have hs4 := h4.size
  refine ⟨⟨B', h1, fun k hk => ?_, hb.trans (h4.below hs (fun k hk => (hB k hk).1)), fun k hk => by have := hX k hk; omega⟩, fun k hk => h4.block k (hX k hk) (fun hB' => (hB k hB').2 hk), hs4⟩
  rcases h2 k hk with h | h
  · exact hB k h
  · exact ⟨by omega, fun hx => by have := hX k hx; omega⟩
theorem len_bytes {l : List (Int × Int)} (hk : EOk l) {size : Nat} (hs : 5000 ≤ size) : (ebytes l).length ≤ size := by
  have := ebytes_length l
  have := hk.few
  omega
theorem newW_err (l : List (Int × Int)) (e o : Int) (h : (newW l e o).1 ≠ 0) : (newW l e o).2 = l := by
  unfold newW at h ⊢
  by_cases hc : 200 ≤ (cutW l o).length
  · rw [if_pos hc]
  · rw [if_neg hc] at h; exact absurd rfl h
theorem beginW_err (l : List (Int × Int)) (e o : Int) (h : (beginW l e o).1 ≠ 0) : (beginW l e o).2 = l := by
  unfold beginW at h ⊢
  by_cases hc : ¬ ((0 ≤ e ∧ e ≤ 1000000000) ∧ (0 ≤ o ∧ o ≤ 1000000000))
  · rw [if_pos hc]
  · rw [if_neg hc] at h ⊢
    cases hx : l.getLast? with
    | none => rw [hx] at h; exact newW_err _ _ _ h
    | some x =>
      rw [hx] at h
      simp only at h ⊢
      by_cases h1 : e = x.1 ∧ x.2 ≤ o
      · rw [if_pos h1]
      · rw [if_neg h1] at h ⊢
        by_cases h2 : e ≤ x.1
        · rw [if_pos h2]
        · rw [if_neg h2] at h ⊢
          exact newW_err _ _ _ h
theorem cutC_err (l : List (Int × Int)) (o : Int) : (cutC l o).1 ≠ 0 → (cutC l o).2 = l := by
  unfold cutC
  intro h
  split
  · rename_i h1; rw [if_pos h1] at h; exact absurd rfl h
  · rfl
theorem delC_err (l : List (Int × Int)) (o : Int) : (delC l o).1 ≠ 0 → (delC l o).2 = l := by
  unfold delC
  intro h
  split
  · rename_i h1; rw [if_pos h1] at h; exact absurd rfl h
  · rfl
theorem cutC_ok {l : List (Int × Int)} (h : EOk l) (o : Int) : EOk (cutC l o).2 := by
  unfold cutC
  split
  · exact h.cut o
  · exact h
theorem delC_ok {l : List (Int × Int)} (h : EOk l) (o : Int) : EOk (delC l o).2 := by
  unfold delC
  split
  · rename_i h1; exact delW_ok h ((inB_iff o).1 h1)
  · exact h
theorem name_small {name : ByteArray} (h : nameB name = true) (hs : name.size ≤ 64) : name.size ≤ maxLen := by unfold maxLen; omega
theorem CF.begin {w0 w : World} {X q a name l size} (h : CF w0 w X q a name l size) (hnm : nameB name = true) (hn : name.size ≤ maxLen) (e o : Int) (hsz : (ebytes (beginW l e o).2).length ≤ size) :
    Calls Try.prog 17 #[.pointer (some ⟨q, 0, none⟩), .int .i64 e, .int .i64 o] w fun en w' => en = .returned (.int .i64 ((beginW l e o).1 : Int)) ∧ CFA w0 w w' X q a name (beginW l e o).2 size := by
  obtain ⟨B, ⟨fs, h1, h2, h3⟩, h4, h5, h6⟩ := h
  refine (cbegin_any h1 h3 hn e o).mono fun en w' hp => ?_
  obtain ⟨e1, B', g1, g2, g3, g4⟩ := CS.called hnm h2 (beginW_err l e o) (beginW_ok h3 e o) hsz hp
  exact ⟨e1, CF.after h4 h5 h6 g1 g2 g4⟩
theorem CF.cut {w0 w : World} {X q a name l size} (h : CF w0 w X q a name l size) (hnm : nameB name = true) (hn : name.size ≤ maxLen) (o : Int) (hsz : (ebytes (cutC l o).2).length ≤ size) :
    Calls Try.prog 19 #[.pointer (some ⟨q, 0, none⟩), .int .i64 o] w fun en w' => en = .returned (.int .i64 ((cutC l o).1 : Int)) ∧ CFA w0 w w' X q a name (cutC l o).2 size := by
  obtain ⟨B, ⟨fs, h1, h2, h3⟩, h4, h5, h6⟩ := h
  refine (ccut_any h1 h3 hn o).mono fun en w' hp => ?_
  obtain ⟨e1, B', g1, g2, g3, g4⟩ := CS.called hnm h2 (cutC_err l o) (cutC_ok h3 o) hsz hp
  exact ⟨e1, CF.after h4 h5 h6 g1 g2 g4⟩
theorem CF.del {w0 w : World} {X q a name l size} (h : CF w0 w X q a name l size) (hnm : nameB name = true) (hn : name.size ≤ maxLen) (o : Int) (hsz : (ebytes (delC l o).2).length ≤ size) :
    Calls Try.prog 20 #[.pointer (some ⟨q, 0, none⟩), .int .i64 o] w fun en w' => en = .returned (.int .i64 ((delC l o).1 : Int)) ∧ CFA w0 w w' X q a name (delC l o).2 size := by
  obtain ⟨B, ⟨fs, h1, h2, h3⟩, h4, h5, h6⟩ := h
  refine (cdel_any h1 h3 hn o).mono fun en w' hp => ?_
  obtain ⟨e1, B', g1, g2, g3, g4⟩ := CS.called hnm h2 (delC_err l o) (delC_ok h3 o) hsz hp
  exact ⟨e1, CF.after h4 h5 h6 g1 g2 g4⟩
theorem CF.last {w0 w : World} {X q a name l size} (h : CF w0 w X q a name l size) : Calls Try.prog 18 #[.pointer (some ⟨q, 0, none⟩)] w fun e w' => e = .returned (.int .i64 (lastW l)) ∧ Below w.heap.size w w' := by
  obtain ⟨B, ⟨fs, h1, h2, h3⟩, h4, h5, h6⟩ := h
  exact clast_any h1 h3.few
theorem CF.end' {w0 w : World} {X q a name l size} (h : CF w0 w X q a name l size) (e next : Int) : Calls Try.prog 21 #[.pointer (some ⟨q, 0, none⟩), .int .i64 e, .int .i64 next] w fun en w' => en = .returned (.tuple #[.int .i64 (endW l e next).1, .int .i64 (endW l e next).2]) ∧ Below w.heap.size w w' := by
  obtain ⟨B, ⟨fs, h1, h2, h3⟩, h4, h5, h6⟩ := h
  exact cend_any h1 h3 e next
theorem CF.all {w0 w : World} {X q a name l size} (h : CF w0 w X q a name l size) : Calls Try.prog 14 #[.pointer (some ⟨q, 0, none⟩)] w fun e w' => ∃ rv, e = .returned rv ∧ w'.ownsRow w.heap.size 51 3 rv l.length (flatA l) ∧ Below w.heap.size w w' := by
  obtain ⟨B, ⟨fs, h1, h2, h3⟩, h4, h5, h6⟩ := h
  exact call_all h1 h3.few
end Go.Proofs.Ytjggdecjnnpjaaa

