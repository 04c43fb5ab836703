/- Each call of a disk, said of names, bytes and safe numbers alone. -/
import Derived.Test.YtpdghpmfacaglaaClone
namespace Go.Proofs.Ytpdghpmfacaglaa
open Go.RowKit Go.Maps Go.Sort
set_option maxRecDepth 100000
set_option linter.unusedSimpArgs false
set_option linter.unusedVariables false

def ains (x : AF) : List AF → List AF
  | [] => [x]
  | y :: r => if bytesBefore x.name y.name then x :: y :: r else y :: ains x r
def adel (l : List AF) (n : List UInt8) : List AF := l.filter fun x => !(x.name == n)
def aput (l : List AF) (x : AF) : List AF := ains x (adel l x.name)
def alook (l : List AF) (n : List UInt8) : Option AF := l.find? fun x => x.name == n
def abytes (l : List AF) (n : List UInt8) : List UInt8 := match alook l n with | some x => x.bs | none => []
def asafe (l : List AF) (n : List UInt8) : Nat := match alook l n with | some x => x.safe | none => 0

theorem abs_fins (x : List UInt8 × FileE) : ∀ fs : List (List UInt8 × FileE), abs (fins x fs) = ains (absE x) (abs fs)
  | [] => rfl
  | y :: r => by
    have ih := abs_fins x r
    unfold abs at ih ⊢
    unfold fins
    simp only [List.map_cons, ains]
    by_cases h : bytesBefore x.1 y.1 = true
    · simp only [h, if_true, show bytesBefore (absE x).name (absE y).name = true from h, List.map_cons]
    · have h2 : ¬ bytesBefore (absE x).name (absE y).name = true := h
      simp only [h, h2, Bool.false_eq_true, if_false, List.map_cons, ih]

theorem abs_fdel (n : List UInt8) : ∀ fs : List (List UInt8 × FileE), abs (fdel fs n) = adel (abs fs) n
  | [] => rfl
  | y :: r => by
    have ih := abs_fdel n r
    unfold abs fdel adel at ih ⊢
    simp only [List.filter_cons, List.map_cons, show (absE y).name = y.1 from rfl]
    split <;> simp [ih]

theorem abs_fput (fs : List (List UInt8 × FileE)) (n : List UInt8) (f : FileE) : abs (fput fs n f) = aput (abs fs) ⟨n, f.bs, f.safe⟩ := by
  unfold fput aput
  rw [abs_fins, abs_fdel]
  rfl

theorem alook_abs (n : List UInt8) : ∀ fs : List (List UInt8 × FileE), alook (abs fs) n = (flook fs n).map fun f => ⟨n, f.bs, f.safe⟩
  | [] => rfl
  | y :: r => by
    have ih := alook_abs n r
    unfold alook flook abs at ih ⊢
    simp only [List.map_cons, List.find?_cons, show (absE y).name = y.1 from rfl]
    cases h : (y.1 == n)
    · exact ih
    · simp at h
      simp [absE, h]

theorem abytes_abs (fs : List (List UInt8 × FileE)) (n : List UInt8) : abytes (abs fs) n = bsAt fs n := by
  unfold abytes bsAt
  rw [alook_abs]
  cases flook fs n <;> rfl
theorem asafe_abs (fs : List (List UInt8 × FileE)) (n : List UInt8) : asafe (abs fs) n = safeAt fs n := by
  unfold asafe safeAt
  rw [alook_abs]
  cases flook fs n <;> rfl
theorem asome_abs (fs : List (List UInt8 × FileE)) (n : List UInt8) : (alook (abs fs) n).isSome = (flook fs n).isSome := by
  rw [alook_abs]
  cases flook fs n <;> rfl

/-- A disk with such files. -/
def DiskA (w : World) (S : Nat → Prop) (a size : Nat) (l : List AF) : Prop := ∃ mo fs, DiskM w S a size mo fs ∧ abs fs = l

/-- What a call leaves. -/
def AfterA (S : Nat → Prop) (w w' : World) (a size : Nat) (l : List AF) : Prop :=
  ∃ S', DiskA w' S' a size l ∧ (∀ k, S' k → S k ∨ w.heap.size ≤ k) ∧ (∀ k, S k → S' k) ∧ Keeps S w w'

theorem After.abs' {S : Nat → Prop} {w w' : World} {a size : Nat} {fs : List (List UInt8 × FileE)} {l : List AF} (h : After S w w' a size fs) (e : abs fs = l) : AfterA S w w' a size l := by
  obtain ⟨S', mo', hd, h1, h2, h3⟩ := h
  exact ⟨S', ⟨mo', fs, hd, e⟩, h1, h2, h3⟩

theorem DiskA.under {w w1 : World} {S : Nat → Prop} {a size : Nat} {l : List AF} (h : DiskA w S a size l) (hb : Below w.heap.size w w1) : DiskA w1 S a size l := by
  obtain ⟨mo, fs, hd, e⟩ := h
  exact ⟨mo, fs, hd.under hb, e⟩
theorem DiskA.beside {w w1 : World} {S T : Nat → Prop} {a size : Nat} {l : List AF} (h : DiskA w S a size l) (hk : Keeps T w w1) (hd : ∀ k, S k → ¬ T k) : DiskA w1 S a size l := by
  obtain ⟨mo, fs, h, e⟩ := h
  exact ⟨mo, fs, h.beside hk hd, e⟩
theorem DiskA.below {w : World} {S : Nat → Prop} {a size : Nat} {l : List AF} (h : DiskA w S a size l) : ∀ k, S k → k < w.heap.size := by
  obtain ⟨mo, fs, h, e⟩ := h
  exact h.below
theorem DiskA.facts {w : World} {S : Nat → Prop} {a size : Nat} {l : List AF} (h : DiskA w S a size l) : totalA l ≤ size ∧ size ≤ 16777216 ∧ l.length ≤ 256 ∧ l.Pairwise (fun x y => bytesBefore x.name y.name = true) ∧ (∀ x ∈ l, x.safe ≤ x.bs.length ∧ x.name.length ≤ maxLen) := by
  obtain ⟨mo, fs, h, rfl⟩ := h
  refine ⟨by rw [total_abs]; exact h.room, h.small, by rw [abs_length]; exact h.few, h.rising_abs, fun x hx => ?_⟩
  obtain ⟨p, hp, rfl⟩ := mem_abs.1 hx
  exact ⟨(h.owns p hp).2, h.names_le p hp⟩
theorem AfterA.same {S : Nat → Prop} {w w1 : World} {a size : Nat} {l : List AF} (h : DiskA w S a size l) (hb : Below w.heap.size w w1) : AfterA S w w1 a size l :=
  ⟨S, h.under hb, fun _ hk => .inl hk, fun _ hk => hk, Keeps.of_below hb⟩

theorem newA (n : Nat) (w : World) (h1 : 1 ≤ n) (h2 : n ≤ 16777216) :
    Calls Try.prog 10 #[.int .i64 (n : Int)] w fun e w' => e = .returned (.tuple #[.pointer (some ⟨w.heap.size, 0, none⟩), .int .i64 0]) ∧ DiskA w' (fun k => k = w.heap.size) w.heap.size n [] ∧ Below w.heap.size w w' :=
  (new_yes (n : Int) w (by omega) (by omega)).mono (fun e w' ⟨he, hw⟩ => by
    subst hw
    exact ⟨he, ⟨none, [], disk_made w n h2, rfl⟩, (Below.refl _ _).alloc (Nat.le_refl _) _⟩)

def admE (l : List AF) (n : ByteArray) : Nat := if nameB n = true then (if (alook l n.data.toList).isSome = true ∨ l.length < 256 then 0 else 3) else 1
def appE (size : Nat) (l : List AF) (n b : ByteArray) : Nat := if admE l n = 0 then (if b.size ≤ size - totalA l then 0 else 7) else admE l n
def appL (size : Nat) (l : List AF) (n b : ByteArray) : List AF :=
  if admE l n = 0 then aput l ⟨n.data.toList, abytes l n.data.toList ++ b.data.toList.take (min b.size (size - totalA l)), asafe l n.data.toList⟩ else l

theorem admE_zero {fs : List (List UInt8 × FileE)} {n : ByteArray} (h : admE (abs fs) n = 0) : nameB n = true ∧ ((flook fs n.data.toList).isSome = true ∨ fs.length < 256) := by
  unfold admE at h
  rw [asome_abs, abs_length] at h
  split at h
  · split at h
    · exact ⟨by assumption, by assumption⟩
    · cases h
  · cases h

/-- admit, whatever the name. -/
theorem admit_any {w : World} {S : Nat → Prop} {a size : Nat} {mo : Option Nat} {fs : List (List UInt8 × FileE)} (h : DiskM w S a size mo fs) (n : ByteArray) (hn : n.size ≤ maxLen) :
    Calls Try.prog 44 #[.pointer (some ⟨a, 0, none⟩), .string n] w fun e w' => e = .returned (.int .i64 (admE (abs fs) n : Int)) ∧ Below w.heap.size w w' := by
  unfold admE
  rw [asome_abs, abs_length]
  cases hb : nameB n with
  | false => exact (admit_bad n hn hb).mono (fun e w' ⟨h1, h2⟩ => by subst h2; exact ⟨by rw [h1]; rfl, Below.refl _ _⟩)
  | true =>
    cases hs : (flook fs n.data.toList).isSome with
    | true => exact (admit_there h n hn hb hs).mono (fun e w' ⟨h1, h2⟩ => ⟨by rw [h1]; simp, h2⟩)
    | false =>
      refine (admit_new h n hn hb hs).mono (fun e w' ⟨h1, h2⟩ => ⟨?_, h2⟩)
      rw [h1]
      by_cases h3 : fs.length < 256 <;> simp [h3]

set_option maxHeartbeats 400000 in
theorem append_not {w : World} {S : Nat → Prop} {a size : Nat} {mo : Option Nat} {fs : List (List UInt8 × FileE)} (h : DiskM w S a size mo fs) (n b : ByteArray) (hn : n.size ≤ maxLen) (hE : admE (abs fs) n ≠ 0) :
    Calls Try.prog 15 #[.pointer (some ⟨a, 0, none⟩), .string n, .string b] w fun e w' => e = .returned (.int .i64 (admE (abs fs) n : Int)) ∧ Below w.heap.size w w' := by
  have HA : Hid (Calls Try.prog 44 #[.pointer (some ⟨a, 0, none⟩), .string n] w fun e w' => e = .returned (.int .i64 (admE (abs fs) n : Int)) ∧ Below w.heap.size w w') := admit_any h n hn
  generalize admE (abs fs) n = E at *
  have hne : (((E : Nat) : Int) != 0) = true := by simp; omega
  clear h hE
  go_enter Try.func15, Try.ntmps15
  go_wp2_with (go_at_call 44; refine HA.out.mono ?_; rintro e w1 ⟨rfl, hb1⟩)
  go_ret
  exact ⟨rfl, hb1⟩

theorem appendA {w : World} {S : Nat → Prop} {a size : Nat} {l : List AF} (h : DiskA w S a size l) (n b : ByteArray) (hn : n.size ≤ maxLen) (hb : b.size ≤ maxLen) :
    Calls Try.prog 15 #[.pointer (some ⟨a, 0, none⟩), .string n, .string b] w fun e w' => e = .returned (.int .i64 (appE size l n b : Int)) ∧ AfterA S w w' a size (appL size l n b) := by
  obtain ⟨mo, fs, hd, rfl⟩ := h
  by_cases hE : admE (abs fs) n = 0
  · obtain ⟨h1, h2⟩ := admE_zero hE
    refine (append_any hd n b hn hb h1 h2).mono (fun e w' ⟨he, f, hf1, hf2, hA⟩ => ⟨?_, hA.abs' ?_⟩)
    · rw [he]; unfold appE; rw [if_pos hE, total_abs]; split <;> rfl
    · rw [abs_fput, hf1, hf2]; unfold appL; rw [if_pos hE, abytes_abs, asafe_abs, total_abs]
  · refine (append_not hd n b hn hE).mono (fun e w' ⟨he, hb⟩ => ⟨?_, ?_⟩)
    · rw [he]; unfold appE; rw [if_neg hE]
    · unfold appL; rw [if_neg hE]; exact AfterA.same ⟨mo, fs, hd, rfl⟩ hb

def repE (size : Nat) (l : List AF) (n b : ByteArray) : Nat := if admE l n = 0 then (if b.size ≤ size - totalA l + (abytes l n.data.toList).length then 0 else 7) else admE l n
def repL (size : Nat) (l : List AF) (n b : ByteArray) : List AF :=
  if admE l n = 0 ∧ b.size ≤ size - totalA l + (abytes l n.data.toList).length then aput l ⟨n.data.toList, b.data.toList, b.size⟩ else l

set_option maxHeartbeats 400000 in
theorem replace_not {w : World} {S : Nat → Prop} {a size : Nat} {mo : Option Nat} {fs : List (List UInt8 × FileE)} (h : DiskM w S a size mo fs) (n b : ByteArray) (hn : n.size ≤ maxLen) (hE : admE (abs fs) n ≠ 0) :
    Calls Try.prog 22 #[.pointer (some ⟨a, 0, none⟩), .string n, .string b] w fun e w' => e = .returned (.int .i64 (admE (abs fs) n : Int)) ∧ Below w.heap.size w w' := by
  have HA : Hid (Calls Try.prog 44 #[.pointer (some ⟨a, 0, none⟩), .string n] w fun e w' => e = .returned (.int .i64 (admE (abs fs) n : Int)) ∧ Below w.heap.size w w') := admit_any h n hn
  generalize admE (abs fs) n = E at *
  have hne : (((E : Nat) : Int) != 0) = true := by simp; omega
  clear h hE
  go_enter Try.func22, Try.ntmps22
  go_wp2_with (go_at_call 44; refine HA.out.mono ?_; rintro e w1 ⟨rfl, hb1⟩)
  go_ret
  exact ⟨rfl, hb1⟩

theorem replaceA {w : World} {S : Nat → Prop} {a size : Nat} {l : List AF} (h : DiskA w S a size l) (n b : ByteArray) (hn : n.size ≤ maxLen) (hb : b.size ≤ maxLen) :
    Calls Try.prog 22 #[.pointer (some ⟨a, 0, none⟩), .string n, .string b] w fun e w' => e = .returned (.int .i64 (repE size l n b : Int)) ∧ AfterA S w w' a size (repL size l n b) := by
  obtain ⟨mo, fs, hd, rfl⟩ := h
  unfold repE repL
  rw [total_abs, abytes_abs]
  by_cases hE : admE (abs fs) n = 0
  · obtain ⟨h1, h2⟩ := admE_zero hE
    rw [if_pos hE]
    by_cases hf : b.size ≤ size - total fs + (bsAt fs n.data.toList).length
    · rw [if_pos hf, if_pos ⟨hE, hf⟩]
      refine (replace_ok hd n b hn h1 h2 hf).mono (fun e w' ⟨he, f, hf1, hf2, hA⟩ => ⟨by rw [he]; rfl, hA.abs' ?_⟩)
      rw [abs_fput, hf1, hf2]
    · rw [if_neg hf, if_neg (fun h => hf h.2)]
      exact (replace_full hd n b hn hb h1 h2 (by omega)).mono (fun e w' ⟨he, hb⟩ => ⟨by rw [he]; rfl, AfterA.same ⟨mo, fs, hd, rfl⟩ hb⟩)
  · rw [if_neg hE, if_neg (fun h => hE h.1)]
    exact (replace_not hd n b hn hE).mono (fun e w' ⟨he, hb⟩ => ⟨he, AfterA.same ⟨mo, fs, hd, rfl⟩ hb⟩)

def synE (l : List AF) (n : ByteArray) : Nat := if (alook l n.data.toList).isSome = true then 0 else 8
def synL (l : List AF) (n : ByteArray) : List AF := if (alook l n.data.toList).isSome = true then aput l ⟨n.data.toList, abytes l n.data.toList, (abytes l n.data.toList).length⟩ else l

theorem syncA {w : World} {S : Nat → Prop} {a size : Nat} {l : List AF} (h : DiskA w S a size l) (n : ByteArray) (hn : n.size ≤ maxLen) :
    Calls Try.prog 18 #[.pointer (some ⟨a, 0, none⟩), .string n] w fun e w' => e = .returned (.int .i64 (synE l n : Int)) ∧ AfterA S w w' a size (synL l n) := by
  obtain ⟨mo, fs, hd, rfl⟩ := h
  unfold synE synL
  rw [asome_abs, abytes_abs]
  cases hf : flook fs n.data.toList with
  | some f =>
    simp only [Option.isSome_some, if_true]
    refine (sync_yes hd n hn f hf).mono (fun e w' ⟨he, hA⟩ => ⟨by rw [he]; rfl, hA.abs' ?_⟩)
    have e1 : bsAt fs n.data.toList = f.bs := by unfold bsAt; rw [hf]
    rw [abs_fput, e1]
  | none =>
    simp only [Option.isSome_none, Bool.false_eq_true, if_false]
    exact (sync_no hd n hn (by rw [hf]; rfl)).mono (fun e w' ⟨he, hb⟩ => ⟨by rw [he]; rfl, AfterA.same ⟨mo, fs, hd, rfl⟩ hb⟩)

theorem crashA {w : World} {S : Nat → Prop} {a size : Nat} {l : List AF} (h : DiskA w S a size l) (oa : Option Addr) (ks : List Int) (cap : Nat) (hk : IntsAt w oa ks) (hlen : ks.length ≤ maxLen) (hkS : ks ≠ [] → ∀ b off, oa = some ⟨b, off, none⟩ → ¬ S b) :
    Calls Try.prog 16 #[.pointer (some ⟨a, 0, none⟩), .slice oa ks.length cap] w fun e w' => e = .returned (.tuple #[]) ∧ AfterA S w w' a size (crashL ks 0 l.length l) := by
  obtain ⟨mo, fs, hd, rfl⟩ := h
  refine (crash_any hd oa ks cap hk hlen hkS).mono (fun e w' ⟨he, fs', hfs, hA⟩ => ⟨he, hA.abs' ?_⟩)
  rw [hfs, abs_length]

theorem cloneA {w : World} {S : Nat → Prop} {a size : Nat} {l : List AF} (h : DiskA w S a size l) :
    Calls Try.prog 14 #[.pointer (some ⟨a, 0, none⟩)] w fun e w' => e = .returned (.pointer (some ⟨w.heap.size, 0, none⟩)) ∧ ∃ S', DiskA w' S' w.heap.size size l ∧ (∀ k, S' k → w.heap.size ≤ k) ∧ Below w.heap.size w w' := by
  obtain ⟨mo, fs, hd, rfl⟩ := h
  exact (clone_any hd).mono (fun e w' ⟨he, S', mo', fs', hd', ha, hS, hb⟩ => ⟨he, S', ⟨mo', fs', hd', ha⟩, hS, hb⟩)

theorem readA {w : World} {S : Nat → Prop} {a size : Nat} {l : List AF} (h : DiskA w S a size l) (n : ByteArray) (hn : n.size ≤ maxLen) :
    Calls Try.prog 19 #[.pointer (some ⟨a, 0, none⟩), .string n] w fun e w' => e = .returned (.tuple #[.string (strOf (abytes l n.data.toList)), .int .i64 (synE l n : Int)]) ∧ Below w.heap.size w w' := by
  obtain ⟨mo, fs, hd, rfl⟩ := h
  unfold synE
  rw [asome_abs, abytes_abs]
  cases hs : (flook fs n.data.toList).isSome with
  | true => exact (read_yes hd n hn hs).mono (fun e w' ⟨he, hb⟩ => ⟨by rw [he]; rfl, hb⟩)
  | false =>
    refine (read_no hd n hn hs).mono (fun e w' ⟨he, hb⟩ => ⟨?_, hb⟩)
    have e1 : bsAt fs n.data.toList = [] := by
      unfold bsAt
      cases hf : flook fs n.data.toList with
      | none => rfl
      | some f => rw [hf] at hs; cases hs
    rw [he, e1]
    rfl

theorem sizeA {w : World} {S : Nat → Prop} {a size : Nat} {l : List AF} (h : DiskA w S a size l) (n : ByteArray) (hn : n.size ≤ maxLen) :
    Calls Try.prog 25 #[.pointer (some ⟨a, 0, none⟩), .string n] w fun e w' => e = .returned (.int .i64 ((abytes l n.data.toList).length : Int)) ∧ w' = w := by
  obtain ⟨mo, fs, hd, rfl⟩ := h
  rw [abytes_abs]
  exact size_any hd n hn

theorem syncedA {w : World} {S : Nat → Prop} {a size : Nat} {l : List AF} (h : DiskA w S a size l) (n : ByteArray) (hn : n.size ≤ maxLen) :
    Calls Try.prog 20 #[.pointer (some ⟨a, 0, none⟩), .string n] w fun e w' => e = .returned (.int .i64 (asafe l n.data.toList : Int)) ∧ w' = w := by
  obtain ⟨mo, fs, hd, rfl⟩ := h
  rw [asafe_abs]
  exact synced_any hd n hn

theorem freeA {w : World} {S : Nat → Prop} {a size : Nat} {l : List AF} (h : DiskA w S a size l) :
    Calls Try.prog 21 #[.pointer (some ⟨a, 0, none⟩)] w fun e w' => e = .returned (.int .i64 ((size - totalA l : Nat) : Int)) ∧ Below w.heap.size w w' := by
  obtain ⟨mo, fs, hd, rfl⟩ := h
  rw [total_abs]
  exact free_any hd

theorem namesA {w : World} {S : Nat → Prop} {a size : Nat} {l : List AF} (h : DiskA w S a size l) :
    Calls Try.prog 23 #[.pointer (some ⟨a, 0, none⟩)] w fun e w' => ∃ oa cap, e = .returned (.slice oa l.length cap) ∧ (0 < l.length → ∃ g, oa = some ⟨g, 0, none⟩ ∧ w.heap.size ≤ g ∧ g < w'.heap.size ∧ ∀ j x, l[j]? = some x → w'.cell? ⟨g, j, none⟩ = some (.string (strOf x.name))) ∧ Below w.heap.size w w' := by
  obtain ⟨mo, fs, hd, rfl⟩ := h
  refine (names_any hd).mono (fun e w' ⟨v, h1, h2, h3⟩ => ?_)
  obtain ⟨oa, cap, rfl, hg⟩ := row_shape h2
  rw [abs_length]
  refine ⟨oa, cap, h1, fun h0 => ?_, h3⟩
  obtain ⟨g, e1, e2, e3, e4⟩ := hg h0
  refine ⟨g, e1, e2, e3, fun j x hx => e4 j _ ?_⟩
  rw [abs_at] at hx
  obtain ⟨p, hp, rfl⟩ := Option.map_eq_some_iff.1 hx
  rw [List.getElem?_map, List.getElem?_map, hp]
  rfl
end Go.Proofs.Ytpdghpmfacaglaa
