/- Last, End, All. -/
import Derived.Test.YtjggdecjnnpjaaaGreatH8
import Derived.Test.YtjggdecjnnpjaaaGreatH10
import Derived.Test.YtjggdecjnnpjaaaGreatH12
namespace Go.Proofs.YtjggdecjnnpjaaaGreat
open Go.RowKit Go.Maps Go.Sort
set_option maxRecDepth 100000
set_option linter.unusedSimpArgs false
set_option linter.unusedVariables false

set_option maxHeartbeats 1600000 in
theorem clast_any {w : World} {B : Nat → Prop} {q a name l size fs} (h : CD w B q a name l size fs) (hlen : l.length ≤ 200) :
    Calls Tryz.prog 25 #[.pointer (some ⟨q, 0, none⟩)] w fun e w' => e = .returned (.int .i64 (lastW l)) ∧ Below w.heap.size w w' := by
  obtain ⟨oa, cap, k2, kw, HEL, hcap, hcm, hnn, hoa⟩ := h.q (Below.refl _ _)
  clear h
  cases hlast : l.getLast? with
  | none =>
    have hl0 : l = [] := List.getLast?_eq_none_iff.1 hlast
    have HL : Hid (lastW l = -1) := by show _ = _; unfold lastW; rw [hlast]
    have hl1 : l.length = 0 := by rw [hl0]; rfl
    clear hl0 hlast hoa HEL kw
    go_enter Tryz.func25, Tryz.ntmps25
    go_wp2_with fail
    go_ret
    exact ⟨by rw [HL.out]; rfl, Below.refl _ _⟩
  | some x =>
    have HL : Hid (lastW l = x.1) := by show _ = _; unfold lastW; rw [hlast]
    have hpos : 0 < l.length := by cases l with | nil => simp at hlast | cons y r => simp
    have hxl : l[l.length - 1]? = some x := by rw [← hlast, List.getLast?_eq_getElem?]
    obtain ⟨g, rfl⟩ := hoa hpos
    obtain ⟨r0, r1⟩ := HEL.at_ _ _ hxl
    obtain ⟨n, hn1⟩ : ∃ n, l.length = n + 1 := ⟨l.length - 1, by omega⟩
    have hn2 : l.length - 1 = n := by omega
    rw [hn2] at r0 r1
    have hn3 : IntKind.i64.wrap ((n : Int) + 1 - 1) = (n : Int) := by rw [IntWalk.i64_in _ (by omega)]; omega
    have hn4 : IntKind.i64.wrap (n : Int) = (n : Int) := IntWalk.i64_in _ (by omega)
    have hn5 : (n : Int) < (n : Int) + 1 := by omega
    rw [hn1] at k2
    clear hoa hxl hlast HEL hn2
    have hne : ¬ ((n : Int) + 1 = 0) := by omega
    have hne' : ((n : Int) + 1 == 0) = false := by simp; omega
    go_enter Tryz.func25, Tryz.ntmps25
    go_wp2_with fail
    try go_quiet (fail)
    try go_wp2_with fail
    go_ret
    exact ⟨by rw [HL.out]; rfl, by first | exact Below.refl _ _ | exact (Below.refl _ _).drew | exact below_drewN (Below.refl _ _) _⟩

end Go.Proofs.YtjggdecjnnpjaaaGreat

/- Last, End, All. -/
namespace Go.Proofs.YtjggdecjnnpjaaaGreat
open Go.RowKit Go.Maps Go.Sort
set_option maxRecDepth 100000
set_option linter.unusedSimpArgs false
set_option linter.unusedVariables false

set_option maxHeartbeats 3200000 in
theorem cend_any {w : World} {B : Nat → Prop} {q a name l size fs} (h : CD w B q a name l size fs) (hk : EOk l) (e next : Int) :
    Calls Tryz.prog 15 #[.pointer (some ⟨q, 0, none⟩), .int .i64 e, .int .i64 next] w fun en w' => en = .returned (.tuple #[.int .i64 (endW l e next).1, .int .i64 (endW l e next).2]) ∧ Below w.heap.size w w' := by
  have HB := hid ((Below.refl w.heap.size w).alloc (Nat.le_refl _) (.cells #[.int .i64 e] 3))
  have c0 : (w.alloc (.cells #[.int .i64 e] 3)).cell? ⟨w.heap.size, 0, none⟩ = some (.int .i64 e) := cell_at (heap_alloc_new w _) rfl
  have HD := hid h
  have HK := hid hk
  obtain ⟨oa, cap, k2, kw, HEL, hcap, hcm, hnn, hoa⟩ := HD.out.q HB.out
  have HE := hid HEL
  have hlen := HK.out.few
  have H30 : Hid (∀ W, Below (w.alloc (.cells #[.int .i64 e] 3)).heap.size (w.alloc (.cells #[.int .i64 e] 3)) W → Calls Tryz.prog 31 #[.pointer (some ⟨q, 0, none⟩), .func (.func 39) #[] #[.pointer (some ⟨w.heap.size, 0, none⟩)]] W fun en w' => (∃ r : Nat, en = .returned (.int .i64 (r : Int)) ∧ FoundAt l (fun x => decide (e < x.1)) r) ∧ Below (w.alloc (.cells #[.int .i64 e] 3)).heap.size (w.alloc (.cells #[.int .i64 e] 3)) w') := fun W hb => by
    obtain ⟨U, S, v, h1, h2, h3, h4⟩ := HD.out
    exact (first35 ((h1.under HB.out).under hb) hlen w.heap.size e ((World.cell?_of_block (hb.block _ (by simp))).trans c0)).mono fun e w' ⟨e1, e2⟩ => ⟨e1, hb.trans (e2.mono hb.size)⟩
  have HKp : Hid (∀ W, Below (w.alloc (.cells #[.int .i64 e] 3)).heap.size (w.alloc (.cells #[.int .i64 e] 3)) W → ∀ p u, (w.alloc (.cells #[.int .i64 e] 3)).cell? p = some u → W.cell? p = some u) := fun W hb p u hu => (World.cell?_of_block (hb.block p.block (World.block_lt_of_cell? _ _ hu))).trans hu
  clear HEL h hk
  go_enter Tryz.func15, Tryz.ntmps15
  go_wp2_with fail
  generalize w.alloc (.cells #[.int .i64 e] 3) = W1 at *
  refine (H30.out _ ?_).mono ?_
  · first | exact Below.refl _ _ | exact (Below.refl _ _).drew | exact below_drewN (Below.refl _ _) _
  rintro en w2 ⟨⟨r, rfl, hr⟩, hb2⟩
  have hrl := hr.le
  obtain ⟨D0, D1⟩ := found_end (next := next) HK.out hr
  clear hr
  have hbW := hid (HB.out.trans (hb2.mono HB.out.size))
  cases r with
  | zero =>
    have HX := hid (D0 rfl)
    clear D0 D1
    go_wp2_with fail
    go_ret2
    exact ⟨by rw [HX.out]; rfl, hbW.out⟩
  | succ n =>
    have hnl : n < l.length := by omega
    have hx : l[n]? = some l[n] := List.getElem?_eq_getElem hnl
    obtain ⟨DA, DB⟩ := D1 l[n] (by omega) (by simp)
    obtain ⟨g, rfl⟩ := hoa (by omega)
    obtain ⟨r0, r1⟩ := (HE.out.under hb2).at_ n l[n] hx
    generalize l[n] = x at *
    have p2 := HKp.out _ hb2 _ _ k2
    have hn1 : (((n + 1 : Nat) : Int)) = (n : Int) + 1 := by omega
    have hn2 : ¬ ((n : Int) + 1 = 0) := by omega
    have hn3 : (n : Int) < (l.length : Int) := by omega
    have hn5 : IntKind.i64.wrap ((n : Int) + 1 - 1) = (n : Int) := by rw [IntWalk.i64_in _ (by omega)]; omega
    have hn6 : IntKind.i64.wrap (n : Int) = (n : Int) := IntWalk.i64_in _ (by omega)
    have hn7 : ((n : Int) + 1 == 0) = false := by simp; omega
    by_cases hlt : n + 1 < l.length
    · have hlt' : (n : Int) + 1 < (l.length : Int) := by omega
      have hy : l[n + 1]? = some l[n + 1] := List.getElem?_eq_getElem hlt
      have HX := hid (DB _ hy)
      obtain ⟨s0, s1⟩ := (HE.out.under hb2).at_ (n + 1) l[n + 1] hy
      generalize l[n + 1] = y at *
      have hn8 : (0 : Int) ≤ (n : Int) + 1 := by omega
      have hn9 : ((n : Int) + 1).toNat = n + 1 := by omega
      clear D0 D1 DA DB hx hy hoa k2 c0
      try rw [hn1]
      go_wp2_with fail
      go_ret2
      exact ⟨by rw [HX.out]; rfl, hbW.out⟩
    · have hlt' : ¬ (n : Int) + 1 < (l.length : Int) := by omega
      have HX := hid (DA (by omega))
      clear D0 D1 DA DB hx hoa k2 c0
      try rw [hn1]
      go_wp2_with fail
      go_ret2
      exact ⟨by rw [HX.out]; rfl, hbW.out⟩

end Go.Proofs.YtjggdecjnnpjaaaGreat

/- Open; a cache whose file is what it has. -/
namespace Go.Proofs.YtjggdecjnnpjaaaGreat
open Go.RowKit Go.Maps Go.Sort
set_option maxRecDepth 100000
set_option linter.unusedSimpArgs false
set_option linter.unusedVariables false

theorem openL_ok {fs : List AF} {name : ByteArray} (h : (openL fs name).2 = 0) : EOk (openL fs name).1 := by
  unfold openL at h ⊢
  by_cases hs : synE fs name = 0
  · rw [if_pos hs] at h ⊢
    exact eload_ok h
  · rw [if_neg hs]
    exact ⟨by simp, by simp, by simp⟩
set_option maxHeartbeats 800000 in
theorem copen_yes {w : World} {S : Nat → Prop} {a size : Nat} {name : ByteArray} {fs : List AF} (hd : DiskA w S a size fs) (hn : name.size ≤ maxLen) (hok : (openL fs name).2 = 0) :
    Calls Tryz.prog 19 #[.pointer (some ⟨a, 0, none⟩), .string name] w fun e w' => e = .returned (.tuple #[.pointer (some ⟨w.heap.size, 0, none⟩), .int .i64 0]) ∧ (∃ B, CD w' B w.heap.size a name (openL fs name).1 size fs ∧ (∀ k, B k → S k ∨ w.heap.size ≤ k) ∧ (∀ k, S k → B k)) ∧ Below w.heap.size w w' := by
  have hb := (Below.refl w.heap.size w).alloc (Nat.le_refl _) (.cells #[.pointer (some ⟨a, 0, none⟩), .string name, .slice none 0 0] 66)
  have hM : CacheM (w.alloc (.cells #[.pointer (some ⟨a, 0, none⟩), .string name, .slice none 0 0] 66)) (fun k => k = w.heap.size) w.heap.size a name (.slice none 0 0) [] :=
    ⟨fun k hk => by subst hk; simp, rfl, heap_alloc_new w _, EL.nil _, fun k hk => by cases hk⟩
  have HL := hid (load_any hM (hd.under hb) hn)
  have HP : Hid (∀ w', LoadPost (w.alloc (.cells #[.pointer (some ⟨a, 0, none⟩), .string name, .slice none 0 0] 66)) w.heap.size a name (openL fs name).1 w' → (∃ B, CD w' B w.heap.size a name (openL fs name).1 size fs ∧ (∀ k, B k → S k ∨ w.heap.size ≤ k) ∧ (∀ k, S k → B k)) ∧ Below w.heap.size w w') := fun w' hp => by
    obtain ⟨U', v', g1, g2, g3⟩ := hp
    have hU : ∀ k, U' k → w.heap.size ≤ k := fun k hk => by
      rcases g2 k hk with h | h
      · omega
      · simp at h; omega
    have hS := hd.below
    have hsz := hb.size
    have hb2 : Below w.heap.size w w' := hb.trans (g3.below (by omega) (fun k hk => by omega))
    refine ⟨⟨fun k => U' k ∨ S k, ⟨U', S, v', g1, hd.under hb2, fun k h1 h2 => ?_, fun k => Iff.rfl⟩, fun k hk => ?_, fun k hk => .inr hk⟩, hb2⟩
    · have := hS k h1; have := hU k h2; omega
    · rcases hk with hk | hk
      · exact .inr (hU k hk)
      · exact .inl hk
  rw [hok] at HL
  clear hM hb hd
  generalize (openL fs name).1 = L at *
  go_enter Tryz.func19, Tryz.ntmps19
  go_wp2_with (go_at_call 44; refine HL.out.mono ?_; rintro e w1 ⟨rfl, hp⟩; have HQ := hid (HP.out _ hp); clear hp)
  go_ret2
  exact ⟨rfl, HQ.out⟩
set_option maxHeartbeats 800000 in
theorem copen_no {w : World} {S : Nat → Prop} {a size : Nat} {name : ByteArray} {fs : List AF} (hd : DiskA w S a size fs) (hn : name.size ≤ maxLen) (hok : (openL fs name).2 ≠ 0) :
    Calls Tryz.prog 19 #[.pointer (some ⟨a, 0, none⟩), .string name] w fun e w' => e = .returned (.tuple #[.pointer none, .int .i64 (openL fs name).2]) ∧ Below w.heap.size w w' := by
  have hb := (Below.refl w.heap.size w).alloc (Nat.le_refl _) (.cells #[.pointer (some ⟨a, 0, none⟩), .string name, .slice none 0 0] 66)
  have hM : CacheM (w.alloc (.cells #[.pointer (some ⟨a, 0, none⟩), .string name, .slice none 0 0] 66)) (fun k => k = w.heap.size) w.heap.size a name (.slice none 0 0) [] :=
    ⟨fun k hk => by subst hk; simp, rfl, heap_alloc_new w _, EL.nil _, fun k hk => by cases hk⟩
  have HL := hid (load_any hM (hd.under hb) hn)
  have HP : Hid (∀ w', LoadPost (w.alloc (.cells #[.pointer (some ⟨a, 0, none⟩), .string name, .slice none 0 0] 66)) w.heap.size a name (openL fs name).1 w' → Below w.heap.size w w') := fun w' hp => by
    obtain ⟨U', v', g1, g2, g3⟩ := hp
    have hsz := hb.size
    exact hb.trans (g3.below (by omega) (fun k hk => by omega))
  have hne : ((openL fs name).2 != 0) = true := by simp [hok]
  clear hM hb hd hok
  generalize (openL fs name).1 = L at *
  generalize (openL fs name).2 = E at *
  go_enter Tryz.func19, Tryz.ntmps19
  go_wp2_with (go_at_call 44; refine HL.out.mono ?_; rintro e w1 ⟨rfl, hp⟩; have HQ := hid (HP.out _ hp); clear hp)
  go_ret2
  exact ⟨rfl, HQ.out⟩

/-- The files of a disk that has nothing but a cache's. -/
def StF (name : ByteArray) (fs : List AF) (l : List (Int × Int)) : Prop := (fs = [] ∧ l = []) ∨ fs = [⟨name.data.toList, ebytes l, (ebytes l).length⟩]
theorem StF.keep {name : ByteArray} (hnm : nameB name = true) {size : Nat} {fs : List AF} {l l' : List (Int × Int)} (h : StF name fs l) (hsz : (ebytes l').length ≤ size) : keepE size fs name l l' = 0 ∧ StF name (keepL size fs name l l') l' := by
  unfold keepE keepL
  by_cases he : l' = l
  · rw [if_pos he, if_pos he, he]
    exact ⟨rfl, h⟩
  · rw [if_neg he, if_neg he]
    have hz := strOf_size (ebytes l')
    have hd := strOf_data (ebytes l')
    rcases h with ⟨rfl, rfl⟩ | rfl
    · have ha : admE [] name = 0 := by unfold admE; rw [if_pos hnm]; simp
      have hf : (strOf (ebytes l')).size ≤ size - totalA [] + (abytes [] name.data.toList).length := by rw [hz]; simp [totalA]; omega
      refine ⟨?_, .inr ?_⟩
      · unfold repE; rw [if_pos ha, if_pos hf]
      · unfold repL; rw [if_pos ⟨ha, hf⟩, hz, hd]; simp [aput, adel, ains]
    · have hlook : alook [(⟨name.data.toList, ebytes l, (ebytes l).length⟩ : AF)] name.data.toList = some ⟨name.data.toList, ebytes l, (ebytes l).length⟩ := by simp [alook]
      have ha : admE [⟨name.data.toList, ebytes l, (ebytes l).length⟩] name = 0 := by unfold admE; rw [if_pos hnm, hlook]; simp
      have hf : (strOf (ebytes l')).size ≤ size - totalA [⟨name.data.toList, ebytes l, (ebytes l).length⟩] + (abytes [⟨name.data.toList, ebytes l, (ebytes l).length⟩] name.data.toList).length := by
        unfold abytes
        rw [hz, hlook]
        simp [totalA]; omega
      refine ⟨?_, .inr ?_⟩
      · unfold repE; rw [if_pos ha, if_pos hf]
      · unfold repL; rw [if_pos ⟨ha, hf⟩, hz, hd]; simp [aput, adel, ains]
theorem StF.open {name : ByteArray} {fs : List AF} {l : List (Int × Int)} (h : StF name fs l) (hk : EOk l) : openL fs name = (l, 0) := by
  unfold openL
  rcases h with ⟨rfl, rfl⟩ | rfl
  · rw [if_neg (by unfold synE alook; simp)]
  · rw [if_pos (by unfold synE alook; simp)]
    have : abytes [⟨name.data.toList, ebytes l, (ebytes l).length⟩] name.data.toList = ebytes l := by unfold abytes alook; simp
    rw [this, eload_ebytes hk]
theorem StF.crash {name : ByteArray} {fs : List AF} {l : List (Int × Int)} (h : StF name fs l) (ks : List Int) : crashL ks 0 fs.length fs = fs := by
  rcases h with ⟨rfl, rfl⟩ | rfl
  · rfl
  · simp [crashL]

/-- A cache whose file is what it has. -/
def CS (w : World) (B : Nat → Prop) (q a : Nat) (name : ByteArray) (l : List (Int × Int)) (size : Nat) : Prop := ∃ fs, CD w B q a name l size fs ∧ StF name fs l ∧ EOk l
/-- Such a cache behind a world's end, apart from blocks X of others. -/
def CF (w0 w : World) (X : Nat → Prop) (q a : Nat) (name : ByteArray) (l : List (Int × Int)) (size : Nat) : Prop :=
  ∃ B, CS w B q a name l size ∧ (∀ k, B k → w0.heap.size ≤ k ∧ ¬ X k) ∧ Below w0.heap.size w0 w ∧ (∀ k, X k → k < w.heap.size)
theorem CF.ok {w0 w : World} {X q a name l size} (h : CF w0 w X q a name l size) : EOk l := by
  obtain ⟨B, ⟨fs, _, _, h⟩, _⟩ := h
  exact h
theorem CF.below {w0 w : World} {X q a name l size} (h : CF w0 w X q a name l size) : Below w0.heap.size w0 w := by
  obtain ⟨B, _, _, h, _⟩ := h
  exact h
theorem CF.under {w0 w w1 : World} {X q a name l size} (h : CF w0 w X q a name l size) (hb : Below w.heap.size w w1) : CF w0 w1 X q a name l size := by
  obtain ⟨B, ⟨fs, h1, h2, h3⟩, h4, h5, h6⟩ := h
  have hs := hb.size
  exact ⟨B, ⟨fs, h1.under hb, h2, h3⟩, h4, h5.trans (hb.mono h5.size), fun k hk => by have := h6 k hk; omega⟩
/-- Other blocks beside it. -/
theorem CF.with {w0 w w1 : World} {X q a name l size} (h : CF w0 w X q a name l size) (hb : Below w.heap.size w w1) (Y : Nat → Prop) (hY : ∀ k, Y k → X k ∨ (w.heap.size ≤ k ∧ k < w1.heap.size)) : CF w0 w1 Y q a name l size := by
  obtain ⟨B, ⟨fs, h1, h2, h3⟩, h4, h5, h6⟩ := h
  have hs := hb.size
  refine ⟨B, ⟨fs, h1.under hb, h2, h3⟩, fun k hk => ⟨(h4 k hk).1, fun hy => ?_⟩, h5.trans (hb.mono h5.size), fun k hk => ?_⟩
  · rcases hY k hy with h | h
    · exact (h4 k hk).2 h
    · have := h1.below k hk; omega
  · rcases hY k hk with h | h
    · have := h6 k h; omega
    · exact h.2
/-- What a call leaves: the cache, and blocks X as they were. -/
def CFA (w0 w w' : World) (X : Nat → Prop) (q a : Nat) (name : ByteArray) (l : List (Int × Int)) (size : Nat) : Prop := CF w0 w' X q a name l size ∧ (∀ k, X k → w'.heap[k]? = w.heap[k]?) ∧ w.heap.size ≤ w'.heap.size
theorem CS.called {w w' : World} {B : Nat → Prop} {q a name l size fs} {X : Nat × List (Int × Int)} (hnm : nameB name = true) (hf : StF name fs l) (hX : X.1 ≠ 0 → X.2 = l) (hk : EOk X.2) (hsz : (ebytes X.2).length ≤ size) {e : Ending} (h : CallPost B w q a name l size fs X e w') :
    e = .returned (.int .i64 (X.1 : Int)) ∧ ∃ B', CS w' B' q a name X.2 size ∧ (∀ k, B' k → B k ∨ w.heap.size ≤ k) ∧ (∀ k, B k → B' k) ∧ Keeps B w w' := by
  obtain ⟨e1, B', h1, h2, h3, h4⟩ := h
  obtain ⟨x, l'⟩ := X
  by_cases hx : x = 0
  · subst hx
    obtain ⟨w1, w2, w3⟩ := wish_ok size fs name l l'
    obtain ⟨k1, k2⟩ := hf.keep hnm (l' := l') hsz
    rw [w1, k1] at e1
    rw [w2, w3] at h1
    have hw : keptW size fs name l l' = l' := by unfold keptW; rw [if_pos k1]
    rw [hw] at h1
    exact ⟨e1, B', ⟨_, h1, k2, hk⟩, h2, h3, h4⟩
  · obtain ⟨w1, w2, w3⟩ := wish_err size fs name l l' x hx
    rw [w1] at e1
    rw [w2, w3] at h1
    have := hX hx
    simp only at this
    subst this
    exact ⟨e1, B', ⟨_, h1, hf, hk⟩, h2, h3, h4⟩
theorem CF.after {w0 w w' : World} {X : Nat → Prop} {B B' : Nat → Prop} {q a name l size} (hB : ∀ k, B k → w0.heap.size ≤ k ∧ ¬ X k) (hb : Below w0.heap.size w0 w) (hX : ∀ k, X k → k < w.heap.size) (h1 : CS w' B' q a name l size) (h2 : ∀ k, B' k → B k ∨ w.heap.size ≤ k) (h4 : Keeps B w w') : CFA w0 w w' X q a name l size := by
  have hs := hb.size
  have hs4 := h4.size
  refine ⟨⟨B', h1, fun k hk => ?_, hb.trans (h4.below hs (fun k hk => (hB k hk).1)), fun k hk => by have := hX k hk; omega⟩, fun k hk => h4.block k (hX k hk) (fun hB' => (hB k hB').2 hk), hs4⟩
  rcases h2 k hk with h | h
  · exact hB k h
  · exact ⟨by omega, fun hx => by have := hX k hx; omega⟩
theorem len_bytes {l : List (Int × Int)} (hk : EOk l) {size : Nat} (hs : 5000 ≤ size) : (ebytes l).length ≤ size := by
  have := ebytes_length l
  have := hk.few
  omega
theorem newW_err (l : List (Int × Int)) (e o : Int) (h : (newW l e o).1 ≠ 0) : (newW l e o).2 = l := by
  unfold newW at h ⊢
  by_cases hc : 200 ≤ (cutW l o).length
  · rw [if_pos hc]
  · rw [if_neg hc] at h; exact absurd rfl h
theorem beginW_err (l : List (Int × Int)) (e o : Int) (h : (beginW l e o).1 ≠ 0) : (beginW l e o).2 = l := by
  unfold beginW at h ⊢
  by_cases hc : ¬ ((0 ≤ e ∧ e ≤ 1000000000) ∧ (0 ≤ o ∧ o ≤ 1000000000))
  · rw [if_pos hc]
  · rw [if_neg hc] at h ⊢
    cases hx : l.getLast? with
    | none => rw [hx] at h; exact newW_err _ _ _ h
    | some x =>
      rw [hx] at h
      simp only at h ⊢
      by_cases h1 : e = x.1 ∧ x.2 ≤ o
      · rw [if_pos h1]
      · rw [if_neg h1] at h ⊢
        by_cases h2 : e ≤ x.1
        · rw [if_pos h2]
        · rw [if_neg h2] at h ⊢
          exact newW_err _ _ _ h
theorem cutC_err (l : List (Int × Int)) (o : Int) : (cutC l o).1 ≠ 0 → (cutC l o).2 = l := by
  unfold cutC
  intro h
  split
  · rename_i h1; rw [if_pos h1] at h; exact absurd rfl h
  · rfl
theorem delC_err (l : List (Int × Int)) (o : Int) : (delC l o).1 ≠ 0 → (delC l o).2 = l := by
  unfold delC
  intro h
  split
  · rename_i h1; rw [if_pos h1] at h; exact absurd rfl h
  · rfl
theorem cutC_ok {l : List (Int × Int)} (h : EOk l) (o : Int) : EOk (cutC l o).2 := by
  unfold cutC
  split
  · exact h.cut o
  · exact h
theorem delC_ok {l : List (Int × Int)} (h : EOk l) (o : Int) : EOk (delC l o).2 := by
  unfold delC
  split
  · rename_i h1; exact delW_ok h ((inB_iff o).1 h1)
  · exact h
theorem name_small {name : ByteArray} (h : nameB name = true) (hs : name.size ≤ 64) : name.size ≤ maxLen := by unfold maxLen; omega
theorem CF.begin {w0 w : World} {X q a name l size} (h : CF w0 w X q a name l size) (hnm : nameB name = true) (hn : name.size ≤ maxLen) (e o : Int) (hsz : (ebytes (beginW l e o).2).length ≤ size) :
    Calls Tryz.prog 9 #[.pointer (some ⟨q, 0, none⟩), .int .i64 e, .int .i64 o] w fun en w' => en = .returned (.int .i64 ((beginW l e o).1 : Int)) ∧ CFA w0 w w' X q a name (beginW l e o).2 size := by
  obtain ⟨B, ⟨fs, h1, h2, h3⟩, h4, h5, h6⟩ := h
  refine (cbegin_any h1 h3 hn e o).mono fun en w' hp => ?_
  obtain ⟨e1, B', g1, g2, g3, g4⟩ := CS.called hnm h2 (beginW_err l e o) (beginW_ok h3 e o) hsz hp
  exact ⟨e1, CF.after h4 h5 h6 g1 g2 g4⟩
theorem CF.cut {w0 w : World} {X q a name l size} (h : CF w0 w X q a name l size) (hnm : nameB name = true) (hn : name.size ≤ maxLen) (o : Int) (hsz : (ebytes (cutC l o).2).length ≤ size) :
    Calls Tryz.prog 11 #[.pointer (some ⟨q, 0, none⟩), .int .i64 o] w fun en w' => en = .returned (.int .i64 ((cutC l o).1 : Int)) ∧ CFA w0 w w' X q a name (cutC l o).2 size := by
  obtain ⟨B, ⟨fs, h1, h2, h3⟩, h4, h5, h6⟩ := h
  refine (ccut_any h1 h3 hn o).mono fun en w' hp => ?_
  obtain ⟨e1, B', g1, g2, g3, g4⟩ := CS.called hnm h2 (cutC_err l o) (cutC_ok h3 o) hsz hp
  exact ⟨e1, CF.after h4 h5 h6 g1 g2 g4⟩
theorem CF.del {w0 w : World} {X q a name l size} (h : CF w0 w X q a name l size) (hnm : nameB name = true) (hn : name.size ≤ maxLen) (o : Int) (hsz : (ebytes (delC l o).2).length ≤ size) :
    Calls Tryz.prog 13 #[.pointer (some ⟨q, 0, none⟩), .int .i64 o] w fun en w' => en = .returned (.int .i64 ((delC l o).1 : Int)) ∧ CFA w0 w w' X q a name (delC l o).2 size := by
  obtain ⟨B, ⟨fs, h1, h2, h3⟩, h4, h5, h6⟩ := h
  refine (cdel_any h1 h3 hn o).mono fun en w' hp => ?_
  obtain ⟨e1, B', g1, g2, g3, g4⟩ := CS.called hnm h2 (delC_err l o) (delC_ok h3 o) hsz hp
  exact ⟨e1, CF.after h4 h5 h6 g1 g2 g4⟩
theorem CF.last {w0 w : World} {X q a name l size} (h : CF w0 w X q a name l size) : Calls Tryz.prog 25 #[.pointer (some ⟨q, 0, none⟩)] w fun e w' => e = .returned (.int .i64 (lastW l)) ∧ Below w.heap.size w w' := by
  obtain ⟨B, ⟨fs, h1, h2, h3⟩, h4, h5, h6⟩ := h
  exact clast_any h1 h3.few
theorem CF.end' {w0 w : World} {X q a name l size} (h : CF w0 w X q a name l size) (e next : Int) : Calls Tryz.prog 15 #[.pointer (some ⟨q, 0, none⟩), .int .i64 e, .int .i64 next] w fun en w' => en = .returned (.tuple #[.int .i64 (endW l e next).1, .int .i64 (endW l e next).2]) ∧ Below w.heap.size w w' := by
  obtain ⟨B, ⟨fs, h1, h2, h3⟩, h4, h5, h6⟩ := h
  exact cend_any h1 h3 e next
theorem CF.all {w0 w : World} {X q a name l size} (h : CF w0 w X q a name l size) : Calls Tryz.prog 20 #[.pointer (some ⟨q, 0, none⟩)] w fun e w' => ∃ rv, e = .returned rv ∧ w'.ownsRow w.heap.size 51 3 rv l.length (flatA l) ∧ Below w.heap.size w w' := by
  obtain ⟨B, ⟨fs, h1, h2, h3⟩, h4, h5, h6⟩ := h
  exact call_all h1 h3.few
end Go.Proofs.YtjggdecjnnpjaaaGreat

/- pick, same. -/
namespace Go.Proofs.YtjggdecjnnpjaaaGreat
open Go.RowKit Go.Maps Go.Sort
set_option maxRecDepth 100000
set_option linter.unusedSimpArgs false
set_option linter.unusedVariables false

set_option maxHeartbeats 400000 in
theorem pick_any (c n : Int) (w : World) (h1 : -9223372036854775808 ≤ c) (h2 : c ≤ 9223372036854775807) (hn : 1 ≤ n) (hn2 : n ≤ 5000) :
    Calls Tryz.prog 5 #[.int .i64 c, .int .i64 n] w fun e w' => e = .returned (.int .i64 (pickI c n)) ∧ w' = w := by
  by_cases hc : c < 0
  · go_enter Tryz.func5, Tryz.ntmps5
    go_wp2
    go_ret
    have e1 : -(c + 1).tmod n = (-(c + 1)).tmod n := (neg_tmod c n).symm
    have e2 : (-(c + 1)).tmod n = (-(c + 1)) % n := Int.tmod_eq_emod_of_nonneg (by omega)
    refine ⟨ret_int ?_, rfl⟩
    unfold pickI
    rw [if_pos hc, e1, e2]
  · go_enter Tryz.func5, Tryz.ntmps5
    go_wp2
    go_ret
    refine ⟨ret_int ?_, rfl⟩
    unfold pickI
    rw [if_neg (by omega)]
/-- A row of entries as All answers it. -/
def AL (w : World) (v : Value) (l : List (Int × Int)) : Prop :=
  ∃ oa cap, v = .slice oa l.length cap ∧ (0 < l.length → ∃ g, oa = some ⟨g, 0, none⟩ ∧ g < w.heap.size ∧ ∀ (i : Nat) x, l[i]? = some x → w.cell? ⟨g, i * 3, none⟩ = some (.int .i64 x.1) ∧ w.cell? ⟨g, i * 3 + 1, none⟩ = some (.int .i64 x.2) ∧ w.cell? ⟨g, i * 3 + 2, none⟩ = some (.string ⟨#[]⟩))
theorem flatA_at : ∀ (l : List (Int × Int)) (i : Nat) (m : Int × Int), l[i]? = some m → (flatA l)[i * 3]? = some (.int .i64 m.1) ∧ (flatA l)[i * 3 + 1]? = some (.int .i64 m.2) ∧ (flatA l)[i * 3 + 2]? = some (.string ⟨#[]⟩)
  | [], i, m, h => by simp at h
  | y :: r, 0, m, h => by simp at h; subst h; simp [flatA, acells]
  | y :: r, i + 1, m, h => by
    have ih := flatA_at r i m (by simpa using h)
    have e : ∀ j, (flatA (y :: r))[(i + 1) * 3 + j]? = (flatA r)[i * 3 + j]? := fun j => by
      have e1 : (i + 1) * 3 + j = 3 + (i * 3 + j) := by omega
      rw [e1]
      show ([_, _, _] ++ flatA r)[3 + (i * 3 + j)]? = _
      rw [List.getElem?_append_right (by simp)]
      congr 1
      simp
    refine ⟨?_, ?_, ?_⟩
    · have := e 0; simp only [Nat.add_zero] at this; rw [this]; exact ih.1
    · rw [e 1]; exact ih.2.1
    · rw [e 2]; exact ih.2.2
theorem AL.of {w : World} {B : Nat} {v : Value} {l : List (Int × Int)} (h : w.ownsRow B 51 3 v l.length (flatA l)) : AL w v l := by
  obtain ⟨_, ⟨e, h0⟩ | ⟨g, cap, cur, e, hb, hg, hn, hc, hs, ht⟩⟩ := id h
  · exact ⟨none, 0, by rw [e, h0], fun h => by omega⟩
  · refine ⟨some ⟨g, 0, none⟩, cap, e, fun _ => ⟨g, rfl, (Array.getElem?_eq_some_iff.1 hg).1, fun i x hx => ?_⟩⟩
    have hcc := fun j u hu => World.ownsRow.cells h (g := g) (by rw [e]; rfl) j u hu
    obtain ⟨h0, h1, h2⟩ := flatA_at l i x hx
    have k0 := hcc _ _ h0
    have k1 := hcc _ _ h1
    have k2 := hcc _ _ h2
    rw [add_lit0] at k0 k1 k2
    exact ⟨k0, k1, k2⟩
theorem AL.kept {w w1 : World} {v : Value} {l : List (Int × Int)} (h : AL w v l) (hs : w.heap.size ≤ w1.heap.size) (hb : ∀ k, v.ownBlock = some k → k < w.heap.size → w1.heap[k]? = w.heap[k]?) : AL w1 v l := by
  obtain ⟨oa, cap, rfl, h4⟩ := h
  refine ⟨oa, cap, rfl, fun h0 => ?_⟩
  obtain ⟨g, rfl, hg, hc⟩ := h4 h0
  have hg1 := hb g rfl hg
  refine ⟨g, rfl, by omega, fun i x hx => ?_⟩
  obtain ⟨c0, c1, c2⟩ := hc i x hx
  exact ⟨by rw [World.cell?_of_block (a := ⟨g, i * 3, none⟩) hg1]; exact c0, by rw [World.cell?_of_block (a := ⟨g, i * 3 + 1, none⟩) hg1]; exact c1, by rw [World.cell?_of_block (a := ⟨g, i * 3 + 2, none⟩) hg1]; exact c2⟩
theorem AL.under {w w1 : World} {v : Value} {l : List (Int × Int)} (h : AL w v l) (hb : Below w.heap.size w w1) : AL w1 v l := h.kept hb.size (fun k hk hk2 => hb.block k hk2)
theorem AL.at_ {w : World} {g n cap : Nat} {l : List (Int × Int)} (h : AL w (.slice (some ⟨g, 0, none⟩) n cap) l) (i : Nat) (x : Int × Int) (hx : l[i]? = some x) : w.cell? ⟨g, i * 3, none⟩ = some (.int .i64 x.1) ∧ w.cell? ⟨g, i * 3 + 1, none⟩ = some (.int .i64 x.2) ∧ w.cell? ⟨g, i * 3 + 2, none⟩ = some (.string ⟨#[]⟩) := by
  obtain ⟨oa, cap', e, h4⟩ := h
  cases e
  obtain ⟨g', e, _, hc⟩ := h4 (by have := (List.getElem?_eq_some_iff.1 hx).1; omega)
  cases e
  exact hc i x hx
theorem AL.shape {w : World} {v : Value} {l : List (Int × Int)} (h : AL w v l) : ∃ oa cap, v = .slice oa l.length cap ∧ (0 < l.length → ∃ g, oa = some ⟨g, 0, none⟩) := by
  obtain ⟨oa, cap, e, h4⟩ := h
  exact ⟨oa, cap, e, fun h0 => by obtain ⟨g, e, _⟩ := h4 h0; exact ⟨g, e⟩⟩
set_option maxHeartbeats 1000000 in
theorem neq51 (x y : Int × Int) (w : World) : (binOp .neq 51 (.agg #[.int .i64 x.1, .int .i64 x.2, .string ⟨#[]⟩]) (.agg #[.int .i64 y.1, .int .i64 y.2, .string ⟨#[]⟩])).run Tryz.prog w = .ok (.bool (!decide (x = y))) w := by
  rw [run_neq_struct, run_equalIn_agg w 9999 51 _ _ (by kernel_rfl) (by kernel_rfl)]
  obtain ⟨a, b⟩ := x
  obtain ⟨c, d⟩ := y
  by_cases h1 : a = c <;> by_cases h2 : b = d <;> simp [go_sem, h1, h2]
set_option maxHeartbeats 1600000 in
theorem same_any {w : World} {v1 v2 : Value} {l m : List (Int × Int)} (h1 : AL w v1 l) (h2 : AL w v2 m) (hl : l.length ≤ 201) (hm : m.length ≤ 201) :
    Calls Tryz.prog 21 #[v1, v2] w fun e w' => e = .returned (.bool (decide (l = m))) ∧ Below w.heap.size w w' := by
  obtain ⟨oa, cap, rfl, hoa⟩ := h1.shape
  obtain ⟨ob, cbp, rfl, hob⟩ := h2.shape
  by_cases he : l.length = m.length
  · have hne : ((l.length : Int) != (m.length : Int)) = false := by simp; omega
    have HL := hid he
    have H1 := hid h1
    have H2 := hid h2
    clear h1 h2 he
    go_enter Tryz.func21, Tryz.ntmps21
    go_wp2_with fail
    go_loopg [5] l.length (fun kx s5 wr => ∃ k : Nat, k ≤ l.length ∧ l.length - k ≤ kx ∧ s5 = .int .i64 (k : Int) ∧ Hid (Below w.heap.size w wr ∧ ∀ (i : Nat) x y, i < k → l[i]? = some x → m[i]? = some y → x = y))
    case atStart => exact ⟨0, by omega, by omega, rfl, Below.refl _ _, fun i x y hi => by omega⟩
    case round =>
      obtain ⟨k, hk, hkx, rfl, HB⟩ := hrel
      by_cases hlt : k < l.length
      · have hlt' : (k : Int) < (l.length : Int) := by omega
        have hlm : k < m.length := by have := HL.out; omega
        have hlm' : (k : Int) < (m.length : Int) := by omega
        obtain ⟨ga, rfl⟩ := hoa (by omega)
        obtain ⟨gb, rfl⟩ := hob (by omega)
        have hx : l[k]? = some l[k] := List.getElem?_eq_getElem hlt
        have hy : m[k]? = some m[k] := List.getElem?_eq_getElem hlm
        obtain ⟨a0, a1, a2⟩ := (H1.out.under HB.out.1).at_ k _ hx
        obtain ⟨b0, b1, b2⟩ := (H2.out.under HB.out.1).at_ k _ hy
        have HX := hid hx
        have HY := hid hy
        clear hx hy
        generalize l[k] = x at *
        generalize m[k] = y at *
        by_cases hxy : x = y
        · subst hxy
          have hq : ∀ W : World, (binOp .neq 51 (.agg #[.int .i64 x.1, .int .i64 x.2, .string ⟨#[]⟩]) (.agg #[.int .i64 x.1, .int .i64 x.2, .string ⟨#[]⟩])).run Tryz.prog W = .ok (.bool false) W := fun W => by rw [neq51]; simp
          go_wp2_with fail
          try go_quiet (fail)
          try go_wp2_with fail
          go_roundg (l.length - (k + 1))
          case measure => omega
          case rel =>
            refine ⟨k + 1, by omega, Nat.le_refl _, by go_num, by first | exact HB.out.1 | exact HB.out.1.drew | exact below_drewN HB.out.1 _, fun i x' y' hi e1 e2 => ?_⟩
            rcases Nat.lt_or_ge i k with h | h
            · exact HB.out.2 i x' y' h e1 e2
            · have e : i = k := by omega
              subst e
              rw [HX.out] at e1
              rw [HY.out] at e2
              cases e1
              cases e2
              rfl
        · have hq : ∀ W : World, (binOp .neq 51 (.agg #[.int .i64 x.1, .int .i64 x.2, .string ⟨#[]⟩]) (.agg #[.int .i64 y.1, .int .i64 y.2, .string ⟨#[]⟩])).run Tryz.prog W = .ok (.bool true) W := fun W => by rw [neq51]; simp [hxy]
          have HF : Hid (decide (l = m) = false) := by
            refine decide_eq_false (fun e => hxy ?_)
            have h1 := HX.out
            have h2 := HY.out
            rw [e] at h1
            rw [h1] at h2
            cases h2
            rfl
          clear hxy
          go_wp2_with fail
          try go_quiet (fail)
          try go_wp2_with fail
          go_ret
          exact ⟨by rw [HF.out]; rfl, by first | exact HB.out.1 | exact HB.out.1.drew | exact below_drewN HB.out.1 _⟩
      · have hlt' : ¬ (k : Int) < (l.length : Int) := by omega
        have HF : Hid (decide (l = m) = true) := decide_eq_true (take_ext HL.out (fun i x y e1 e2 => HB.out.2 i x y (by have := (List.getElem?_eq_some_iff.1 e1).1; omega) e1 e2))
        go_wp2_with fail
        go_ret
        exact ⟨by rw [HF.out]; rfl, HB.out.1⟩
  · have hne : ((l.length : Int) != (m.length : Int)) = true := by simp; omega
    have HF : Hid (decide (l = m) = false) := decide_eq_false (fun e => he (by rw [e]))
    clear h1 h2 he
    go_enter Tryz.func21, Tryz.ntmps21
    go_wp2_with fail
    go_ret
    exact ⟨by rw [HF.out]; rfl, Below.refl _ _⟩

end Go.Proofs.YtjggdecjnnpjaaaGreat

/- A cache on a new disk; the chapter's example. -/
namespace Go.Proofs.YtjggdecjnnpjaaaGreat
open Go.RowKit Go.Maps Go.Sort
set_option maxRecDepth 100000
set_option linter.unusedSimpArgs false
set_option linter.unusedVariables false

def fname : ByteArray := ⟨#[101, 112, 111, 99, 104, 115]⟩
theorem fname_name : nameB fname = true := by decide +kernel
theorem fname_size : fname.size ≤ maxLen := by unfold maxLen; decide
theorem eok_nil : EOk [] := ⟨by simp, by simp, by simp⟩
set_option maxHeartbeats 800000 in
theorem opened_any (n : Nat) (h1 : 1 ≤ n) (h2 : n ≤ 16777216) (w : World) :
    Calls Tryz.prog 6 #[.int .i64 (n : Int)] w fun e w' => ∃ q a, e = .returned (.tuple #[.pointer (some ⟨q, 0, none⟩), .pointer (some ⟨a, 0, none⟩)]) ∧ CF w w' (fun _ => False) q a fname [] n ∧ ∃ B, CD w' B q a fname [] n [] ∧ ∀ k, B k → w.heap.size ≤ k := by
  have HN := hid (newA n w h1 h2)
  have HO : Hid (∀ W S, DiskA W S w.heap.size n [] → Calls Tryz.prog 19 #[.pointer (some ⟨w.heap.size, 0, none⟩), .string fname] W fun e w' => e = .returned (.tuple #[.pointer (some ⟨W.heap.size, 0, none⟩), .int .i64 0]) ∧ (∃ B, CD w' B W.heap.size w.heap.size fname [] n [] ∧ (∀ k, B k → S k ∨ W.heap.size ≤ k) ∧ (∀ k, S k → B k)) ∧ Below W.heap.size W w') := fun W S hd => by
    have hst : StF fname [] [] := .inl ⟨rfl, rfl⟩
    have ho := hst.open eok_nil
    have := copen_yes hd fname_size (by rw [ho])
    rw [ho] at this
    exact this
  go_enter Tryz.func6, Tryz.ntmps6
  go_wp2_with fail
  refine HN.out.mono ?_
  rintro e w1 ⟨rfl, hd1, hb1⟩
  have HB1 := hid hb1
  have H11 := hid (HO.out w1 _ hd1)
  clear HO HN hb1 hd1
  go_wp2_with (go_at_call 19; refine H11.out.mono ?_; rintro e w2 ⟨rfl, hcd, hb2⟩; have HC := hid hcd; have HB2 := hid hb2; clear hcd hb2)
  go_ret2
  obtain ⟨B, g1, g2, g3⟩ := HC.out
  have hs := HB1.out.size
  have hB : ∀ k, B k → w.heap.size ≤ k := fun k hk => by
    rcases g2 k hk with h | h
    · omega
    · omega
  exact ⟨_, _, rfl, ⟨B, ⟨[], g1, .inl ⟨rfl, rfl⟩, eok_nil⟩, fun k hk => ⟨hB k hk, fun h => h⟩, HB1.out.trans (HB2.out.mono hs), fun k hk => hk.elim⟩, B, g1, hB⟩

theorem CF.size {w0 w : World} {X q a name l size} (h : CF w0 w X q a name l size) (hn : name.size ≤ maxLen) (hl : l ≠ []) : Calls Tryz.prog 27 #[.pointer (some ⟨a, 0, none⟩), .string name] w fun e w' => (∃ n : Nat, 0 < n ∧ n ≤ 16777216 ∧ e = .returned (.int .i64 (n : Int))) ∧ w' = w := by
  obtain ⟨B, ⟨fs, ⟨U, S, v, h1, h2, h3, h4⟩, g2, g3⟩, _⟩ := h
  have hsm := h2.small name.data.toList
  refine (sizeA h2 name hn).mono fun e w' ⟨e1, e2⟩ => ⟨?_, e2⟩
  rcases g2 with ⟨_, h⟩ | h
  · exact absurd h hl
  · refine ⟨_, ?_, hsm, e1⟩
    rw [h]
    have : abytes [⟨name.data.toList, ebytes l, (ebytes l).length⟩] name.data.toList = ebytes l := by unfold abytes alook; simp
    rw [this]
    unfold ebytes
    rw [sealL_length]
    omega
theorem lit3 (w : World) : AL (w.alloc (.cells #[.int .i64 1, .int .i64 0, .string ⟨#[]⟩, .int .i64 5, .int .i64 10, .string ⟨#[]⟩, .int .i64 6, .int .i64 30, .string ⟨#[]⟩] 51)) (.slice (some ⟨w.heap.size, 0, none⟩) 3 3) [(1, 0), (5, 10), (6, 30)] :=
  AL.of (B := 0) ⟨rfl, .inr ⟨w.heap.size, 3, _, rfl, Nat.zero_le _, heap_alloc_new w _, Nat.le_refl _, by unfold maxLen; decide, rfl, rfl⟩⟩
theorem CF.begin' {w0 w : World} {X q a l size} (h : CF w0 w X q a fname l size) (e o : Int) (c : Nat) (l' : List (Int × Int)) (hX : beginW l e o = (c, l')) (hsz : 14 + l'.length * 20 ≤ size) :
    Calls Tryz.prog 9 #[.pointer (some ⟨q, 0, none⟩), .int .i64 e, .int .i64 o] w fun en w' => en = .returned (.int .i64 (c : Int)) ∧ CF w0 w' X q a fname l' size := by
  have hl := ebytes_length l'
  have := h.begin fname_name fname_size e o (by rw [hX]; simp only; omega)
  rw [hX] at this
  exact this.mono fun en w' ⟨e1, e2⟩ => ⟨e1, e2.1⟩
set_option maxHeartbeats 6400000 in
theorem shown_any (w : World) : Calls Tryz.prog 4 #[] w fun e w' => e = .returned (.bool true) ∧ Below w.heap.size w w' := by
  have HO := hid (opened_any 1000 (by omega) (by omega) w)
  go_enter Tryz.func4, Tryz.ntmps4
  go_wp2_with fail
  refine HO.out.mono ?_
  rintro e w1 ⟨q, a, rfl, hc1, _⟩
  have L1 := hid hc1.last
  have C1 := hid hc1
  clear hc1 HO
  go_wp2_with fail
  refine L1.out.mono ?_
  rintro e w2 ⟨rfl, hb2⟩
  have e0 : lastW [] = -1 := rfl
  rw [e0]
  have B2 := hid ((C1.out.under hb2).begin' 1 0 0 [(1, 0)] (by decide) (by decide))
  clear hb2 L1 C1
  go_wp2_with fail
  refine B2.out.mono ?_
  rintro e w3 ⟨rfl, hc3⟩
  have B3 := hid (hc3.begin' 3 10 0 [(1, 0), (3, 10)] (by decide) (by decide))
  clear hc3 B2
  go_wp2_with fail
  refine B3.out.mono ?_
  rintro e w4 ⟨rfl, hc4⟩
  have B4 := hid (hc4.begin' 2 20 13 [(1, 0), (3, 10)] (by decide) (by decide))
  clear hc4 B3
  go_wp2_with fail
  refine B4.out.mono ?_
  rintro e w5 ⟨rfl, hc5⟩
  have B5 := hid (hc5.begin' 5 10 0 [(1, 0), (5, 10)] (by decide) (by decide))
  clear hc5 B4
  go_wp2_with fail
  refine B5.out.mono ?_
  rintro e w6 ⟨rfl, hc6⟩
  have B6 := hid (hc6.begin' 6 30 0 [(1, 0), (5, 10), (6, 30)] (by decide) (by decide))
  clear hc6 B5
  go_wp2_with fail
  refine B6.out.mono ?_
  rintro e w7 ⟨rfl, hc7⟩
  have HE := hid (hc7.end' 4 40)
  have C7 := hid hc7
  clear hc7 B6
  have e1 : endW [(1, 0), (5, 10), (6, 30)] 4 40 = (1, 10) := by decide
  rw [e1] at HE
  go_wp2_with fail
  refine HE.out.mono ?_
  rintro e w8 ⟨rfl, hb8⟩
  have HA := hid (C7.out.under hb8).all
  have C8 := hid (C7.out.under hb8)
  clear hb8 HE C7
  go_wp2_with fail
  refine HA.out.mono ?_
  rintro e w9 ⟨rv, rfl, hr9, hb9⟩
  have A9 := hid (AL.of hr9)
  have C9 := hid (C8.out.under hb9)
  clear hr9 hb9 HA C8
  have hb9a := (Below.refl w9.heap.size w9).alloc (Nat.le_refl _) (.cells #[.int .i64 1, .int .i64 0, .string ⟨#[]⟩, .int .i64 5, .int .i64 10, .string ⟨#[]⟩, .int .i64 6, .int .i64 30, .string ⟨#[]⟩] 51)
  have C10 := hid (C9.out.under hb9a)
  have HS := hid (same_any (A9.out.under hb9a) (lit3 w9) (by decide) (by decide))
  rw [decide_eq_true rfl] at HS
  clear hb9a C9 A9
  go_wp2_with fail
  refine HS.out.mono ?_
  rintro e w11 ⟨rfl, hb11⟩
  have C11 := hid (C10.out.under hb11)
  have HL := hid C11.out.last
  have e2 : lastW [(1, 0), (5, 10), (6, 30)] = 6 := by decide
  rw [e2] at HL
  clear hb11 HS C10
  go_wp2_with fail
  refine HL.out.mono ?_
  rintro e w12 ⟨rfl, hb12⟩
  have C12 := hid (C11.out.under hb12)
  have HZ := hid (C12.out.size fname_size (by simp))
  have HBf := hid C12.out.below
  clear hb12 HL C11 C12
  go_wp2_with fail
  refine HZ.out.mono ?_
  rintro e w13 ⟨⟨n, hn1, hn2, rfl⟩, rfl⟩
  have hn3 : (0 : Int) < (n : Int) := by omega
  go_wp2_with fail
  go_ret
  exact ⟨rfl, HBf.out⟩

end Go.Proofs.YtjggdecjnnpjaaaGreat

