/- Both caches beside each other. -/
import Derived.Test.YtjggdecjnnpjaaaGreatH19
import Derived.Test.YtjggdecjnnpjaaaGreatH23
import Derived.Test.YtjggdecjnnpjaaaGreatH24
namespace Go.Proofs.YtjggdecjnnpjaaaGreat
open Go.RowKit Go.Maps Go.Sort
set_option maxRecDepth 100000
set_option linter.unusedSimpArgs false
set_option linter.unusedVariables false

/-- Both caches and their disks, each in blocks of its own behind a world's end, apart from blocks X. -/
def PS (w0 w : World) (X : Nat → Prop) (q a q2 r : Nat) (l1 : List (Int × Int)) (fs1 : List AF) (l2 : List (Int × Int)) (fs2 : List AF) (size : Nat) : Prop :=
  ∃ B R, CD w B q a fname l1 size fs1 ∧ RD w R q2 r fname l2 size fs2 ∧ (∀ k, B k → ¬ R k) ∧ (∀ k, B k ∨ R k → w0.heap.size ≤ k ∧ ¬ X k) ∧ Below w0.heap.size w0 w ∧ (∀ k, X k → k < w.heap.size)
theorem PS.below {w0 w X q a q2 r l1 fs1 l2 fs2 size} (h : PS w0 w X q a q2 r l1 fs1 l2 fs2 size) : Below w0.heap.size w0 w := by
  obtain ⟨B, R, _, _, _, _, h5, _⟩ := h
  exact h5
theorem PS.few {w0 w X q a q2 r l1 fs1 l2 fs2 size} (h : PS w0 w X q a q2 r l1 fs1 l2 fs2 size) : ∀ k, X k → k < w.heap.size := by
  obtain ⟨B, R, _, _, _, _, _, h6⟩ := h
  exact h6
theorem PS.lok {w0 w X q a q2 r l1 fs1 l2 fs2 size} (h : PS w0 w X q a q2 r l1 fs1 l2 fs2 size) : LOk size fs1 := by
  obtain ⟨B, R, ⟨U, S, v, _, h2, _⟩, _⟩ := h
  exact h2.lok
/-- A world that keeps all but blocks T that are neither's. -/
theorem PS.beside {w0 w w1 X q a q2 r l1 fs1 l2 fs2 size} {T : Nat → Prop} (h : PS w0 w X q a q2 r l1 fs1 l2 fs2 size) (hk : Keeps T w w1) (hT : ∀ k, T k → X k ∧ w0.heap.size ≤ k) (Y : Nat → Prop) (hY : ∀ k, Y k → X k ∨ (w.heap.size ≤ k ∧ k < w1.heap.size)) : PS w0 w1 Y q a q2 r l1 fs1 l2 fs2 size := by
  obtain ⟨B, R, h1, h2, h3, h4, h5, h6⟩ := h
  have hB := h1.below
  have hR := h2.below
  have hs := hk.size
  refine ⟨B, R, h1.beside hk (fun k hb ht => (h4 k (.inl hb)).2 (hT k ht).1), h2.beside hk (fun k hb ht => (h4 k (.inr hb)).2 (hT k ht).1), h3, fun k hk' => ⟨(h4 k hk').1, fun hy => ?_⟩, h5.trans (hk.below h5.size (fun k ht => (hT k ht).2)), fun k hy => ?_⟩
  · rcases hY k hy with h | h
    · exact (h4 k hk').2 h
    · rcases hk' with h' | h'
      · have := hB k h'; omega
      · have := hR k h'; omega
  · rcases hY k hy with h | h
    · have := h6 k h; omega
    · exact h.2
theorem PS.with {w0 w w1 X q a q2 r l1 fs1 l2 fs2 size} (h : PS w0 w X q a q2 r l1 fs1 l2 fs2 size) (hb : Below w.heap.size w w1) (Y : Nat → Prop) (hY : ∀ k, Y k → X k ∨ (w.heap.size ≤ k ∧ k < w1.heap.size)) : PS w0 w1 Y q a q2 r l1 fs1 l2 fs2 size :=
  h.beside (T := fun _ => False) (Keeps.of_below hb) (fun k hk => hk.elim) Y hY
theorem PS.under {w0 w w1 X q a q2 r l1 fs1 l2 fs2 size} (h : PS w0 w X q a q2 r l1 fs1 l2 fs2 size) (hb : Below w.heap.size w w1) : PS w0 w1 X q a q2 r l1 fs1 l2 fs2 size := h.with hb X (fun k hk => .inl hk)
/-- What a call leaves. -/
def PSA (w0 w w' : World) (X : Nat → Prop) (q a q2 r : Nat) (l1 : List (Int × Int)) (fs1 : List AF) (l2 : List (Int × Int)) (fs2 : List AF) (size : Nat) : Prop :=
  PS w0 w' X q a q2 r l1 fs1 l2 fs2 size ∧ (∀ k, X k → w'.heap[k]? = w.heap[k]?) ∧ w.heap.size ≤ w'.heap.size
theorem PS.prog {w0 w X q a q2 r l1 fs1 l2 fs2 size} (h : PS w0 w X q a q2 r l1 fs1 l2 fs2 size) {f : Nat} {args : Array Value} {E : Ending} {l' : List (Int × Int)} {fs' : List AF} (hc : ∀ B, CD w B q a fname l1 size fs1 → Calls Tryz.prog f args w fun e w' => e = E ∧ CDA B w w' q a fname l' size fs') :
    Calls Tryz.prog f args w fun e w' => e = E ∧ PSA w0 w w' X q a q2 r l' fs' l2 fs2 size := by
  obtain ⟨B, R, h1, h2, h3, h4, h5, h6⟩ := h
  have hR := h2.below
  refine (hc B h1).mono fun e w' ⟨e1, B', g1, g2, g3, g4⟩ => ⟨e1, ⟨B', R, g1, h2.beside g4 (fun k hk hb => h3 k hb hk), fun k hk hr => ?_, fun k hk => ?_, h5.trans (g4.below h5.size (fun k hk => (h4 k (.inl hk)).1)), fun k hk => ?_⟩, fun k hk => g4.block k (h6 k hk) (fun hb => (h4 k (.inl hb)).2 hk), g4.size⟩
  · rcases g2 k hk with h | h
    · exact h3 k h hr
    · have := hR k hr; omega
  · rcases hk with hk | hk
    · rcases g2 k hk with h | h
      · exact h4 k (.inl h)
      · have hs := h5.size
        exact ⟨by omega, fun hx => by have := h6 k hx; omega⟩
    · exact h4 k (.inr hk)
  · have := h6 k hk
    have := g4.size
    omega
theorem PS.doc {w0 w X q a q2 r l1 fs1 l2 fs2 size} (h : PS w0 w X q a q2 r l1 fs1 l2 fs2 size) {f : Nat} {args : Array Value} {E : Ending} {l' : List (Int × Int)} {fs' : List AF} (hc : ∀ B, RD w B q2 r fname l2 size fs2 → Calls Tryz.prog f args w fun e w' => e = E ∧ RDA B w w' q2 r fname l' size fs') :
    Calls Tryz.prog f args w fun e w' => e = E ∧ PSA w0 w w' X q a q2 r l1 fs1 l' fs' size := by
  obtain ⟨R, B, h2, h1, h3, h4, h5, h6⟩ := h
  have hR := h2.below
  refine (hc B h1).mono fun e w' ⟨e1, B', g1, g2, g3, g4⟩ => ⟨e1, ⟨R, B', h2.beside g4 (fun k hk hb => h3 k hk hb), g1, fun k hr hk => ?_, fun k hk => ?_, h5.trans (g4.below h5.size (fun k hk => (h4 k (.inr hk)).1)), fun k hk => ?_⟩, fun k hk => g4.block k (h6 k hk) (fun hb => (h4 k (.inr hb)).2 hk), g4.size⟩
  · rcases g2 k hk with h | h
    · exact h3 k hr h
    · have := hR k hr; omega
  · rcases hk with hk | hk
    · exact h4 k (.inl hk)
    · rcases g2 k hk with h | h
      · exact h4 k (.inr h)
      · have hs := h5.size
        exact ⟨by omega, fun hx => by have := h6 k hx; omega⟩
  · have := h6 k hk
    have := g4.size
    omega

/-- What is wished of a cache whose file is what it has leaves it so. -/
theorem wish_st {name : ByteArray} (hnm : nameB name = true) {size : Nat} {fs : List AF} {l : List (Int × Int)} (hok : LOk size fs) (h : StF name fs l) (hk : EOk l) (X : Nat × List (Int × Int)) (hX : EOk X.2) : StF name (wishL size fs name l X) (wishW size fs name l X) ∧ EOk (wishW size fs name l X) := by
  obtain ⟨c, l'⟩ := X
  by_cases hc : c = 0
  · subst hc
    obtain ⟨e1, e2, e3⟩ := wish_ok size fs name l l'
    rw [e2, e3]
    by_cases he : l' = l
    · unfold keptW keepL keepE
      rw [if_pos he, if_pos he, if_pos rfl, he]
      exact ⟨h, hk⟩
    · by_cases hz : (ebytes l').length ≤ size
      · obtain ⟨k1, k2⟩ := h.keep hnm hz (l' := l')
        unfold keptW
        rw [if_pos k1]
        exact ⟨k2, hX⟩
      · have ht := hok.total
        have hf : ¬ (strOf (ebytes l')).size ≤ size - totalA fs + (abytes fs name.data.toList).length := by
          rw [strOf_size]
          rcases h with ⟨rfl, rfl⟩ | rfl
          · simp [totalA, abytes, alook]; omega
          · simp [totalA, abytes, alook] at ht ⊢; omega
        have k1 : keepE size fs name l l' ≠ 0 := by
          unfold keepE repE
          rw [if_neg he]
          by_cases ha : admE fs name = 0
          · rw [if_pos ha, if_neg hf]; omega
          · rw [if_neg ha]; exact ha
        have k2 : keepL size fs name l l' = fs := by
          unfold keepL repL
          rw [if_neg he, if_neg (fun h => hf h.2)]
        unfold keptW
        rw [if_neg k1, k2]
        exact ⟨h, hk⟩
  · obtain ⟨e1, e2, e3⟩ := wish_err size fs name l l' c hc
    rw [e2, e3]
    exact ⟨h, hk⟩

/-- Both, with the same entries and files. -/
def PF (w0 w : World) (X : Nat → Prop) (q a q2 r : Nat) (l : List (Int × Int)) (size : Nat) : Prop :=
  ∃ fs, PS w0 w X q a q2 r l fs l fs size ∧ StF fname fs l ∧ EOk l
theorem PF.ok {w0 w X q a q2 r l size} (h : PF w0 w X q a q2 r l size) : EOk l := by
  obtain ⟨fs, _, _, h⟩ := h
  exact h
theorem PF.below {w0 w X q a q2 r l size} (h : PF w0 w X q a q2 r l size) : Below w0.heap.size w0 w := by
  obtain ⟨fs, h, _⟩ := h
  exact h.below
theorem PF.with {w0 w w1 X q a q2 r l size} (h : PF w0 w X q a q2 r l size) (hb : Below w.heap.size w w1) (Y : Nat → Prop) (hY : ∀ k, Y k → X k ∨ (w.heap.size ≤ k ∧ k < w1.heap.size)) : PF w0 w1 Y q a q2 r l size := by
  obtain ⟨fs, h1, h2⟩ := h
  exact ⟨fs, h1.with hb Y hY, h2⟩
theorem PF.under {w0 w w1 X q a q2 r l size} (h : PF w0 w X q a q2 r l size) (hb : Below w.heap.size w w1) : PF w0 w1 X q a q2 r l size := h.with hb X (fun k hk => .inl hk)
/-- A call of the program, and then the document's. -/
def Pair (w0 w : World) (X : Nat → Prop) (q a q2 r : Nat) (size : Nat) (f g : Nat) (az bz : Array Value) : Prop :=
  ∃ (l' : List (Int × Int)) (E : Nat), Calls Tryz.prog f az w fun e w' => e = .returned (.int .i64 (E : Int)) ∧ (∀ k, X k → w'.heap[k]? = w.heap[k]?) ∧ w.heap.size ≤ w'.heap.size ∧
    Hid (∀ W, Below w'.heap.size w' W → Calls Tryz.prog g bz W fun e w'' => e = .returned (.int .i64 (E : Int)) ∧ PF w0 w'' X q a q2 r l' size ∧ (∀ k, X k → w''.heap[k]? = W.heap[k]?) ∧ W.heap.size ≤ w''.heap.size)
theorem PF.pair {w0 w X q a q2 r l size} (h : PF w0 w X q a q2 r l size) {f g : Nat} {az bz : Array Value} (x : Nat × List (Int × Int)) (hx : EOk x.2)
    (h1 : ∀ B fs, CD w B q a fname l size fs → Calls Tryz.prog f az w fun e w' => CallPost B w q a fname l size fs x e w')
    (h2 : ∀ W B fs, LOk size fs → RD W B q2 r fname l size fs → Calls Tryz.prog g bz W fun e w' => RPost B W q2 r fname l size fs x e w') : Pair w0 w X q a q2 r size f g az bz := by
  obtain ⟨fs, p1, p2, p3⟩ := h
  have hok := p1.lok
  obtain ⟨s1, s2⟩ := wish_st fname_name hok p2 p3 x hx
  refine ⟨wishW size fs fname l x, wishE size fs fname l x, (p1.prog (fun B hB => h1 B fs hB)).mono fun e w' ⟨e1, e2, e3, e4⟩ => ⟨e1, e3, e4, fun W hb => ?_⟩⟩
  refine ((e2.under hb).doc (fun B hB => h2 W B fs hok hB)).mono fun e w'' ⟨f1, f2, f3, f4⟩ => ⟨f1, ⟨_, f2, s1, s2⟩, f3, f4⟩
theorem PF.begin {w0 w X q a q2 r l size} (h : PF w0 w X q a q2 r l size) (e o : Int) : Pair w0 w X q a q2 r size 9 10 #[.pointer (some ⟨q, 0, none⟩), .int .i64 e, .int .i64 o] #[.pointer (some ⟨q2, 0, none⟩), .int .i64 e, .int .i64 o] :=
  h.pair (beginW l e o) (beginW_ok h.ok e o) (fun B fs hB => cbegin_any hB h.ok fname_size e o) (fun W B fs hok hB => rbegin_any hB hok h.ok fname_size e o)
theorem PF.cut {w0 w X q a q2 r l size} (h : PF w0 w X q a q2 r l size) (o : Int) : Pair w0 w X q a q2 r size 11 12 #[.pointer (some ⟨q, 0, none⟩), .int .i64 o] #[.pointer (some ⟨q2, 0, none⟩), .int .i64 o] :=
  h.pair (cutC l o) (cutC_ok h.ok o) (fun B fs hB => ccut_any hB h.ok fname_size o) (fun W B fs hok hB => rcut_any hB hok h.ok fname_size o)
theorem PF.del {w0 w X q a q2 r l size} (h : PF w0 w X q a q2 r l size) (o : Int) : Pair w0 w X q a q2 r size 13 14 #[.pointer (some ⟨q, 0, none⟩), .int .i64 o] #[.pointer (some ⟨q2, 0, none⟩), .int .i64 o] :=
  h.pair (delC l o) (delC_ok h.ok o) (fun B fs hB => cdel_any hB h.ok fname_size o) (fun W B fs hok hB => rdel_any hB hok h.ok fname_size o)
theorem PF.end1 {w0 w X q a q2 r l size} (h : PF w0 w X q a q2 r l size) (e n : Int) : Calls Tryz.prog 15 #[.pointer (some ⟨q, 0, none⟩), .int .i64 e, .int .i64 n] w fun en w' => en = .returned (.tuple #[.int .i64 (endW l e n).1, .int .i64 (endW l e n).2]) ∧ Below w.heap.size w w' := by
  obtain ⟨fs, ⟨B, R, h1, _⟩, _, hk⟩ := h
  exact cend_any h1 hk e n
theorem PF.end2 {w0 w X q a q2 r l size} (h : PF w0 w X q a q2 r l size) (e n : Int) : Calls Tryz.prog 16 #[.pointer (some ⟨q2, 0, none⟩), .int .i64 e, .int .i64 n] w fun en w' => en = .returned (.tuple #[.int .i64 (endW l e n).1, .int .i64 (endW l e n).2]) ∧ Below w.heap.size w w' := by
  obtain ⟨fs, ⟨B, R, _, ⟨U, T, v, dv, h1, _⟩, _⟩, _, hk⟩ := h
  exact rend_any h1 hk e n
theorem PF.last1 {w0 w X q a q2 r l size} (h : PF w0 w X q a q2 r l size) : Calls Tryz.prog 25 #[.pointer (some ⟨q, 0, none⟩)] w fun en w' => en = .returned (.int .i64 (lastW l)) ∧ Below w.heap.size w w' := by
  obtain ⟨fs, ⟨B, R, h1, _⟩, _, hk⟩ := h
  exact clast_any h1 hk.few
theorem PF.last2 {w0 w X q a q2 r l size} (h : PF w0 w X q a q2 r l size) : Calls Tryz.prog 26 #[.pointer (some ⟨q2, 0, none⟩)] w fun en w' => en = .returned (.int .i64 (lastW l)) ∧ Below w.heap.size w w' := by
  obtain ⟨fs, ⟨B, R, _, ⟨U, T, v, dv, h1, _⟩, _⟩, _, hk⟩ := h
  exact rlast_any h1 hk.few
theorem PF.all1 {w0 w X q a q2 r l size} (h : PF w0 w X q a q2 r l size) : Calls Tryz.prog 20 #[.pointer (some ⟨q, 0, none⟩)] w fun e w' => ∃ rv, e = .returned rv ∧ w'.ownsRow w.heap.size 51 3 rv l.length (flatA l) ∧ Below w.heap.size w w' := by
  obtain ⟨fs, ⟨B, R, h1, _⟩, _, hk⟩ := h
  exact call_all h1 hk.few
theorem PF.all2 {w0 w X q a q2 r l size} (h : PF w0 w X q a q2 r l size) : Calls Tryz.prog 22 #[.pointer (some ⟨q2, 0, none⟩)] w fun e w' => ∃ rv, e = .returned rv ∧ w'.ownsRow w.heap.size 51 3 rv l.length (flatA l) ∧ Below w.heap.size w w' := by
  obtain ⟨fs, ⟨B, R, _, ⟨U, T, v, dv, h1, _⟩, _⟩, _, hk⟩ := h
  exact rall_any h1 hk.few
/-- Both disks answer a Read alike. -/
theorem PF.read {w0 w X q a q2 r l size} (h : PF w0 w X q a q2 r l size) : ∃ (b : ByteArray) (E : Nat), (∀ W, Below w.heap.size w W → Calls Tryz.prog 23 #[.pointer (some ⟨a, 0, none⟩), .string fname] W fun e w' => e = .returned (.tuple #[.string b, .int .i64 (E : Int)]) ∧ Below W.heap.size W w') ∧ (∀ W, Below w.heap.size w W → Calls Tryz.prog 24 #[.pointer (some ⟨r, 0, none⟩), .string fname] W fun e w' => e = .returned (.tuple #[.string b, .int .i64 (E : Int)]) ∧ W = w') := by
  obtain ⟨fs, ⟨B, R, ⟨U0, S, v0, _, hd, _⟩, ⟨U, T, v, dv, _, h2, _⟩, _⟩, _, hk⟩ := h
  refine ⟨strOf (abytes fs fname.data.toList), synE fs fname, fun W hb => readA (hd.under hb) fname fname_size, fun W hb => (rread_any (h2.underZ hb) hd.lok.len fname).mono fun e w' ⟨e1, e2⟩ => ⟨e1, e2.symm⟩⟩
end Go.Proofs.YtjggdecjnnpjaaaGreat

/- Both disks crash, both caches are opened anew. -/
namespace Go.Proofs.YtjggdecjnnpjaaaGreat
open Go.RowKit Go.Maps Go.Sort
set_option maxRecDepth 100000
set_option linter.unusedSimpArgs false
set_option linter.unusedVariables false

/-- Both disks, of the same files. -/
def PDk (w0 w : World) (X : Nat → Prop) (a r : Nat) (l : List (Int × Int)) (size : Nat) : Prop :=
  ∃ S T dv fs, DiskA w S a size fs ∧ RefM w T r size dv fs ∧ (∀ k, S k → ¬ T k) ∧ (∀ k, S k ∨ T k → w0.heap.size ≤ k ∧ ¬ X k) ∧ Below w0.heap.size w0 w ∧ (∀ k, X k → k < w.heap.size) ∧ StF fname fs l ∧ EOk l
/-- The program's cache over its disk, and the document's disk. -/
def PM (w0 w : World) (X : Nat → Prop) (q a r : Nat) (l : List (Int × Int)) (size : Nat) : Prop :=
  ∃ B T dv fs, CD w B q a fname l size fs ∧ RefM w T r size dv fs ∧ (∀ k, B k → ¬ T k) ∧ (∀ k, B k ∨ T k → w0.heap.size ≤ k ∧ ¬ X k) ∧ Below w0.heap.size w0 w ∧ (∀ k, X k → k < w.heap.size) ∧ StF fname fs l ∧ EOk l
theorem PF.disks {w0 w X q a q2 r l size} (h : PF w0 w X q a q2 r l size) : PDk w0 w X a r l size := by
  obtain ⟨fs, ⟨B, R, ⟨U0, S, v0, _, hd, _, hB⟩, ⟨U, T, v, dv, _, h2, _, hR⟩, h3, h4, h5, h6⟩, hs, hk⟩ := h
  refine ⟨S, T, dv, fs, hd, h2, fun k k1 k2 => h3 k ((hB k).2 (.inr k1)) ((hR k).2 (.inr k2)), fun k hk => h4 k ?_, h5, h6, hs, hk⟩
  rcases hk with hk | hk
  · exact .inl ((hB k).2 (.inr hk))
  · exact .inr ((hR k).2 (.inr hk))
theorem PDk.crash1 {w0 w X a r l size} (h : PDk w0 w X a r l size) : Calls Tryz.prog 17 #[.pointer (some ⟨a, 0, none⟩), .slice none 0 0] w fun e w' => e = .returned (.tuple #[]) ∧ PDk w0 w' X a r l size := by
  obtain ⟨S, T, dv, fs, h1, h2, h3, h4, h5, h6, h7, h8⟩ := h
  have hT := h2.below
  refine (crashA h1 none [] 0 (.inl rfl) (by simp [maxLen]) (fun hne => absurd rfl hne)).mono fun e w' ⟨e1, e2⟩ => ?_
  rw [h7.crash] at e2
  obtain ⟨S', d1, d2, d3, d4⟩ := e2
  have hs := d4.size
  refine ⟨e1, S', T, dv, fs, d1, h2.besideZ d4 (fun k k1 k2 => h3 k k2 k1), fun k k1 k2 => ?_, fun k hk => ?_, h5.trans (d4.below h5.size (fun k hk => (h4 k (.inl hk)).1)), fun k hk => by have := h6 k hk; omega, h7, h8⟩
  · rcases d2 k k1 with h | h
    · exact h3 k h k2
    · have := hT k k2; omega
  · rcases hk with hk | hk
    · rcases d2 k hk with h | h
      · exact h4 k (.inl h)
      · exact ⟨by have := h5.size; omega, fun hx => by have := h6 k hx; omega⟩
    · exact h4 k (.inr hk)
theorem PDk.crash2 {w0 w X a r l size} (h : PDk w0 w X a r l size) : Calls Tryz.prog 18 #[.pointer (some ⟨r, 0, none⟩), .slice none 0 0] w fun e w' => e = .returned (.tuple #[]) ∧ PDk w0 w' X a r l size := by
  obtain ⟨S, T, dv, fs, h1, h2, h3, h4, h5, h6, h7, h8⟩ := h
  have hS := h1.below
  refine (rcrash_any h2 h1.lok none [] 0 (.inl rfl) (by simp [maxLen]) (fun hne => absurd rfl hne)).mono fun e w' ⟨e1, e2⟩ => ?_
  rw [h7.crash] at e2
  obtain ⟨T', dv', d1, d2, d3, d4⟩ := e2
  have hs := d4.size
  refine ⟨e1, S, T', dv', fs, h1.beside d4 (fun k k1 k2 => h3 k k1 k2), d1, fun k k1 k2 => ?_, fun k hk => ?_, h5.trans (d4.below h5.size (fun k hk => (h4 k (.inr hk)).1)), fun k hk => by have := h6 k hk; omega, h7, h8⟩
  · rcases d2 k k2 with h | h
    · exact h3 k k1 h
    · have := hS k k1; omega
  · rcases hk with hk | hk
    · exact h4 k (.inl hk)
    · rcases d2 k hk with h | h
      · exact h4 k (.inr h)
      · exact ⟨by have := h5.size; omega, fun hx => by have := h6 k hx; omega⟩
theorem PDk.open {w0 w X a r l size} (h : PDk w0 w X a r l size) : Calls Tryz.prog 19 #[.pointer (some ⟨a, 0, none⟩), .string fname] w fun e w' => ∃ q, e = .returned (.tuple #[.pointer (some ⟨q, 0, none⟩), .int .i64 0]) ∧ PM w0 w' X q a r l size := by
  obtain ⟨S, T, dv, fs, h1, h2, h3, h4, h5, h6, h7, h8⟩ := h
  have hT := h2.below
  have ho := h7.open h8
  have := copen_yes h1 fname_size (by rw [ho])
  rw [ho] at this
  refine this.mono fun e w' ⟨e1, ⟨B, b1, b2, b3⟩, e3⟩ => ⟨_, e1, B, T, dv, fs, b1, h2.underZ e3, fun k k1 k2 => ?_, fun k hk => ?_, h5.trans (e3.mono h5.size), fun k hk => by have := h6 k hk; have := e3.size; omega, h7, h8⟩
  · rcases b2 k k1 with h | h
    · exact h3 k h k2
    · have := hT k k2; omega
  · rcases hk with hk | hk
    · rcases b2 k hk with h | h
      · exact h4 k (.inl h)
      · exact ⟨by have := h5.size; omega, fun hx => by have := h6 k hx; omega⟩
    · exact h4 k (.inr hk)
theorem PM.open {w0 w X q a r l size} (h : PM w0 w X q a r l size) : Calls Tryz.prog 8 #[.pointer (some ⟨r, 0, none⟩), .string fname] w fun e w' => ∃ q2, e = .returned (.tuple #[.pointer (some ⟨q2, 0, none⟩), .int .i64 0]) ∧ PF w0 w' X q a q2 r l size := by
  obtain ⟨B, T, dv, fs, h1, h2, h3, h4, h5, h6, h7, h8⟩ := h
  have hB := h1.below
  have hok : LOk size fs := by
    obtain ⟨U, S, v, _, hd, _⟩ := h1
    exact hd.lok
  refine (ropen_any h2 hok (h7.open h8)).mono fun e w' ⟨q2, e1, ⟨R, b1, b2, b3⟩, e3⟩ => ⟨q2, e1, fs, ⟨B, R, h1.under e3, b1, fun k k1 k2 => ?_, fun k hk => ?_, h5.trans (e3.mono h5.size), fun k hk => by have := h6 k hk; have := e3.size; omega⟩, h7, h8⟩
  · rcases b2 k k2 with h | h
    · exact h3 k k1 h
    · have := hB k k1; omega
  · rcases hk with hk | hk
    · exact h4 k (.inl hk)
    · rcases b2 k hk with h | h
      · exact h4 k (.inr h)
      · exact ⟨by have := h5.size; omega, fun hx => by have := h6 k hx; omega⟩
/-- The document's disk made beside the program's new cache. -/
theorem pm_new {w0 w : World} {q a n : Nat} (h1 : 1 ≤ n) (h2 : n ≤ 16777216) (hb : Below w0.heap.size w0 w) {B : Nat → Prop} (hc : CD w B q a fname [] n []) (hB : ∀ k, B k → w0.heap.size ≤ k) :
    Calls Tryz.prog 7 #[.int .i64 (n : Int)] w fun e w' => ∃ r, e = .returned (.pointer (some ⟨r, 0, none⟩)) ∧ PM w0 w' (fun _ => False) q a r [] n := by
  have hs := hb.size
  have hBl := hc.below
  refine (rnew_yes n w h1 h2).mono fun e w' ⟨e1, e2, e3⟩ => ⟨_, e1, B, _, _, [], hc.under e3, e2, fun k k1 k2 => ?_, fun k hk => ⟨?_, fun h => h⟩, hb.trans (e3.mono hs), fun k hk => hk.elim, .inl ⟨rfl, rfl⟩, eok_nil⟩
  · have := hBl k k1; omega
  · rcases hk with hk | hk
    · exact hB k hk
    · omega
end Go.Proofs.YtjggdecjnnpjaaaGreat

