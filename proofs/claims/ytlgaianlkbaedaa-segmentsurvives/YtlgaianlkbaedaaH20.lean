/- Open. -/
import Derived.Test.YtlgaianlkbaedaaH19
namespace Go.Proofs.Ytlgaianlkbaedaa
open Go.RowKit Go.Maps Go.Sort
set_option maxRecDepth 100000
set_option linter.unusedSimpArgs false
set_option linter.unusedVariables false

theorem SegM.fresh (w : World) (a base : Nat) (name : ByteArray) : SegM (w.alloc (.cells #[.pointer (some ⟨a, 0, none⟩), .string name, .int .i64 (base : Int), .int .i64 (base : Int), .int .i64 0, .int .i64 0, .slice none 0 0] 64)) (fun k => k = w.heap.size) w.heap.size a base name ⟨base, 0, 0⟩ (.slice none 0 0) [] :=
  ⟨fun k hk => by simp [hk], rfl, heap_alloc_new _ _, ⟨rfl, .inl ⟨rfl, rfl⟩⟩, fun k hk => by cases hk⟩
/-- Both, from the parts. -/
theorem SD.of {w w' : World} {S S' U : Nat → Prop} {q a base name m v ix size fs} (h1 : SegM w' U q a base name m v ix) (h2 : DiskA w' S' a size fs) (h3 : ∀ k, S' k → ¬ U k) (g1 : ∀ k, S' k → S k ∨ w.heap.size ≤ k) (g2 : ∀ k, S k → S' k) (g3 : ∀ k, U k → w.heap.size ≤ k) : ∃ B, SD w' B q a base name m ix size fs ∧ (∀ k, B k → S k ∨ w.heap.size ≤ k) ∧ (∀ k, S k → B k) := by
  refine ⟨fun k => U k ∨ S' k, ⟨U, S', v, h1, h2, h3, fun k => Iff.rfl⟩, fun k hk => ?_, fun k hk => .inr (g2 k hk)⟩
  rcases hk with hk | hk
  · exact .inr (g3 k hk)
  · exact g1 k hk
/-- What Open leaves. -/
def OpenPost (S : Nat → Prop) (w : World) (a base : Nat) (name : ByteArray) (size : Nat) (fs : List AF) (R : Mk × List Mk × List UInt8) (e : Ending) (w' : World) : Prop :=
  ∃ q B, e = .returned (.tuple #[.pointer (some ⟨q, 0, none⟩), .int .i64 (R.2.2.length : Int), .int .i64 0]) ∧ w.heap.size ≤ q ∧ SD w' B q a base name R.1 R.2.1 size fs ∧ (∀ k, B k → S k ∨ w.heap.size ≤ k) ∧ (∀ k, S k → B k) ∧ Keeps S w w'
set_option maxHeartbeats 3200000 in
theorem open_yes {w : World} {S : Nat → Prop} {a size : Nat} {fs : List AF} (hD : DiskA w S a size fs) (name : ByteArray) (hn : name.size ≤ maxLen) (base : Nat) (hbase : base ≤ 1000000000) (hE : appE size fs name ⟨#[]⟩ = 0)
    {l : List UInt8} (hl : l = abytes (appL size fs name ⟨#[]⟩) name.data.toList) {R : Mk × List Mk × List UInt8} (hR : loadL (l.length + 1) ⟨base, 0, 0⟩ [] l = R) :
    Calls Try.prog 10 #[.pointer (some ⟨a, 0, none⟩), .string name, .int .i64 (base : Int)] w fun e w' => OpenPost S w a base name size (synL (cutL (appL size fs name ⟨#[]⟩) name (R.1.at_ : Int)) name) R e w' := by
  have H26 := hid (appendA hD name ⟨#[]⟩ hn (by decide))
  rw [hE] at H26
  clear hE
  generalize appL size fs name ⟨#[]⟩ = fs1 at *
  have hb0 : ¬ (base : Int) < 0 := by omega
  have hb1 : ¬ (1000000000 : Int) < (base : Int) := by omega
  go_enter Try.func10, Try.ntmps10
  go_wp2_with fail
  refine H26.out.mono ?_
  rintro e w1 ⟨rfl, S1, d1, d2, d3, d4⟩
  have HD1 := hid d1
  have HE1 := hid (And.intro d2 (And.intro d3 d4))
  have hs1 := d4.size
  clear d1 d2 d3 d4 H26 hD
  have hb2 : Below w1.heap.size w1 (w1.alloc (.cells #[.pointer (some ⟨a, 0, none⟩), .string name, .int .i64 (base : Int), .int .i64 (base : Int), .int .i64 0, .int .i64 0, .slice none 0 0] 64)) := (Below.refl _ _).alloc (Nat.le_refl _) _
  have HD2 := hid (HD1.out.under hb2)
  have hsm := HD1.out.small name.data.toList
  rw [← hl] at hsm
  have H27 := hid (load_any (SegM.fresh w1 a base name) HD2.out hn hl (tot := l.length) ⟨hbase, Nat.zero_le _, by simp, Nat.le_refl _, fun x hx => by cases hx⟩ (by omega))
  rw [hR] at H27
  have HW2 := hid hb2
  clear hb2
  go_wp2_with fail
  refine H27.out.mono ?_
  rintro e w3 ⟨rfl, U3, v3, t1, t2, t3, t4⟩
  have HS3 := hid t1
  have HU3 : Hid (∀ k, U3 k → w1.heap.size ≤ k) := fun k hk => by
    rcases t2 k hk with h | h
    · exact Nat.le_of_eq h.symm
    · simp at h; omega
  have HD3 := hid (HD2.out.beside t4 (fun k hk e => by have := HD1.out.below k hk; omega))
  have HK3 := hid ((Keeps.of_below (S := fun _ => False) HW2.out).trans t4 (fun x hx => .inr (Nat.le_of_eq hx.symm)))
  have HX3 : Hid (∀ k, S1 k → ¬ U3 k) := fun k h1 h2 => by have := HU3.out k h2; have := HD1.out.below k h1; omega
  obtain ⟨k0, k1, k2, k3, k4, k5, k6⟩ := t1.c
  clear t1 t2 t3 t4 H27 HD2 HW2
  have H28 : Hid (∀ W, Below w3.heap.size w3 W → Calls Try.prog 28 #[.pointer (some ⟨a, 0, none⟩), .string name, .int .i64 (R.1.at_ : Int)] W fun e w' => e = .returned (.int .i64 (cutE fs1 name (R.1.at_ : Int) : Int)) ∧ AfterA S1 W w' a size (cutL fs1 name (R.1.at_ : Int))) := fun W hb => cutA (HD3.out.under hb) name hn _
  go_wp2_with fail
  refine (H28.out _ (Below.refl _ _)).mono ?_
  rintro e w4 ⟨rfl, S4, d1, d2, d3, d4⟩
  have HS4 := hid (HS3.out.beside d4 (fun k h1 h2 => HX3.out k h2 h1))
  have HD4 := hid d1
  have HE4 := hid (And.intro d2 (And.intro d3 d4))
  have HX4 : Hid (∀ k, S4 k → ¬ U3 k) := fun k h1 h2 => by
    rcases d2 k h1 with h | h
    · exact HX3.out k h h2
    · have := HS3.out.below k h2; omega
  have hs4 := d4.size
  clear d1 d2 d3 d4 H28
  have H29 := hid (syncA HD4.out name hn)
  go_wp2_with fail
  refine H29.out.mono ?_
  rintro e w5 ⟨rfl, S5, d1, d2, d3, d4⟩
  have HS5 := hid (HS4.out.beside d4 (fun k h1 h2 => HX4.out k h2 h1))
  have HD5 := hid d1
  have HE5 := hid (And.intro d2 (And.intro d3 d4))
  have HX5 : Hid (∀ k, S5 k → ¬ U3 k) := fun k h1 h2 => by
    rcases d2 k h1 with h | h
    · exact HX4.out k h h2
    · have := HS4.out.below k h2; omega
  have hs5 := d4.size
  clear d1 d2 d3 d4 H29
  go_wp2_with fail
  refine bodyPost_ret (v := .tuple #[.pointer (some ⟨w1.heap.size, 0, none⟩), .int .i64 (R.2.2.length : Int), .int .i64 0]) (by simp [results, Try.results10, go_sem]) rfl ?_
  have hs3 := HK3.out.size
  have q4 : ∀ k, S4 k → S k ∨ w.heap.size ≤ k := fun k hk => by
    rcases HE4.out.1 k hk with h | h
    · exact HE1.out.1 k h
    · exact .inr (by omega)
  have q5 : ∀ k, S5 k → S k ∨ w.heap.size ≤ k := fun k hk => by
    rcases HE5.out.1 k hk with h | h
    · exact q4 k h
    · exact .inr (by omega)
  obtain ⟨B, b1, b2, b3⟩ := SD.of (w := w) (S := S) HS5.out HD5.out HX5.out q5 (fun k hk => HE5.out.2.1 k (HE4.out.2.1 k (HE1.out.2.1 k hk))) (fun k hk => by have := HU3.out k hk; omega)
  refine ⟨w1.heap.size, B, rfl, hs1, b1, b2, b3, ?_⟩
  exact ((HE1.out.2.2.trans HK3.out (fun x hx => by cases hx)).trans HE4.out.2.2 HE1.out.1).trans HE5.out.2.2 q4
end Go.Proofs.Ytlgaianlkbaedaa

/- Sync, Bytes. -/
namespace Go.Proofs.Ytlgaianlkbaedaa
open Go.RowKit Go.Maps Go.Sort
set_option maxRecDepth 100000
set_option linter.unusedSimpArgs false
set_option linter.unusedVariables false

set_option maxHeartbeats 3200000 in
theorem ssync_any {w : World} {B q a base name m ix size fs} (h : SD w B q a base name m ix size fs) (hn : name.size ≤ maxLen) :
    Calls Try.prog 15 #[.pointer (some ⟨q, 0, none⟩)] w fun e w' => e = .returned (.int .i64 (synE fs name : Int)) ∧ SDA B w w' q a base name m ix size (synL fs name) := by
  obtain ⟨U, S, v, h1, h2, h3, h4⟩ := h
  have H32 : Hid (∀ W, Below w.heap.size w W → Calls Try.prog 32 #[.pointer (some ⟨q, 0, none⟩)] W fun e w' => e = .returned (.pointer (some ⟨a, 0, none⟩)) ∧ w' = W) := fun W hb => sdisk_any (h1.under hb)
  have H29 : Hid (∀ W, Below w.heap.size w W → Calls Try.prog 29 #[.pointer (some ⟨a, 0, none⟩), .string name] W fun e w' => e = .returned (.int .i64 (synE fs name : Int)) ∧ SDA B w w' q a base name m ix size (synL fs name) ∧ w'.cell? ⟨q, 1, none⟩ = some (.string name)) := fun W hb =>
    (syncA (h2.under hb) name hn).mono fun e w' ⟨e1, e2⟩ => ⟨e1, SD.onDisk h1 h2 h3 h4 hb e2, by
      obtain ⟨S', _, _, _, hk⟩ := e2
      exact ((h1.under hb).beside hk (fun k hU hS => h3 k hS hU)).c.2.1⟩
  obtain ⟨k0, k1, k2, k3, k4, k5, k6⟩ := h1.c
  clear h1 h2 h3 h4
  go_enter Try.func15, Try.ntmps15
  go_wp2_with fail
  go_region_held3 (fun w' => w'.cell? ⟨q, 1, none⟩ = some (.string name)) (go_keep)
    (first
    | (go_at_call 32; refine (H32.out _ (by first | exact (Below.refl _ _) | exact (Below.refl _ _).drew)).mono ?_; rintro e w0 ⟨rfl, rfl⟩)
    | (go_at_call 29; refine (H29.out _ (by first | exact (Below.refl _ _) | exact (Below.refl _ _).drew | exact (Below.refl _ _).drew.drew)).mono ?_; rintro e w1 ⟨rfl, hb1, kw1⟩; have HB1 := hid hb1; clear hb1)
    | fail)
  go_wp2_with fail
  go_ret
  exact ⟨rfl, HB1.out⟩
set_option maxHeartbeats 3200000 in
theorem sbytes_any {w : World} {B q a base name m ix size fs} (h : SD w B q a base name m ix size fs) (hn : name.size ≤ maxLen) :
    Calls Try.prog 25 #[.pointer (some ⟨q, 0, none⟩)] w fun e w' => e = .returned (.int .i64 ((abytes fs name.data.toList).length : Int)) ∧ Below w.heap.size w w' := by
  obtain ⟨U, S, v, h1, h2, h3, h4⟩ := h
  have H32 : Hid (∀ W, Below w.heap.size w W → Calls Try.prog 32 #[.pointer (some ⟨q, 0, none⟩)] W fun e w' => e = .returned (.pointer (some ⟨a, 0, none⟩)) ∧ w' = W) := fun W hb => sdisk_any (h1.under hb)
  have H47 : Hid (∀ W, Below w.heap.size w W → Calls Try.prog 47 #[.pointer (some ⟨a, 0, none⟩), .string name] W fun e w' => e = .returned (.int .i64 ((abytes fs name.data.toList).length : Int)) ∧ w' = W) := fun W hb =>
    sizeA (h2.under hb) name hn
  obtain ⟨k0, k1, k2, k3, k4, k5, k6⟩ := h1.c
  clear h1 h2 h3 h4
  go_enter Try.func25, Try.ntmps25
  go_wp2_with fail
  go_region_held3 (fun w' => w'.cell? ⟨q, 1, none⟩ = some (.string name)) (go_keep)
    (first
    | (go_at_call 32; refine (H32.out _ (by first | exact (Below.refl _ _) | exact (Below.refl _ _).drew)).mono ?_; rintro e w0 ⟨rfl, rfl⟩)
    | (go_at_call 47; refine (H47.out _ (by first | exact (Below.refl _ _) | exact (Below.refl _ _).drew | exact (Below.refl _ _).drew.drew)).mono ?_; rintro e w1 ⟨rfl, rfl⟩)
    | fail)
  go_wp2_with fail
  go_ret
  exact ⟨rfl, by first | exact (Below.refl _ _) | exact (Below.refl _ _).drew | exact (Below.refl _ _).drew.drew | exact (Below.refl _ _).drew.drew.drew⟩
end Go.Proofs.Ytlgaianlkbaedaa

