/- What does does. -/
import Derived.Test.YtpdghpmfacaglaaPa
namespace Go.Proofs.Ytpdghpmfacaglaa
open Go.RowKit Go.Maps Go.Sort
set_option maxRecDepth 100000
set_option linter.unusedSimpArgs false
set_option linter.unusedVariables false

theorem cell_new33 (w : World) {cs : Array Value} {j : Nat} {u : Value} (h : cs[j]? = some u) : (w.alloc (.cells cs 33)).cell? ⟨w.heap.size, j, none⟩ = some u := by
  simp only [World.cell?, heap_alloc_new]
  exact h
/-- As Two.p, where the call wants to know that the disk's blocks are not held. -/
theorem Two.p' {F W w a r size lp lr} (h : Two F W w a r size lp lr) {fn : Nat} {args : Array Value} {E : Ending} {lp' : List AF} (f : ∀ S, DiskA w S a size lp → (∀ k, S k → ¬ F k) → Calls Try.prog fn args w fun e w' => e = E ∧ AfterA S w w' a size lp') :
    Calls Try.prog fn args w fun e w' => e = E ∧ Two F W w' a r size lp' lr := by
  obtain ⟨S, T, v, h1, h2, h3, h4, h5, h6⟩ := h
  refine (f S h1 h4).mono ?_
  rintro e w1 ⟨he, S', hd, s1, s2, hk⟩
  refine ⟨he, S', T, v, hd, h2.kept (fun k hT => hk.block k (h2.below k hT) (fun hS => h3 k hS hT)) hk.size, fun k hS hT => ?_, fun k hS hF => ?_, h5, h6.keeps hk h4⟩
  · rcases s1 k hS with h | h
    · exact h3 k h hT
    · have := h2.below k hT; omega
  · rcases s1 k hS with h | h
    · exact h4 k h hF
    · have := h6.low k hF; have := h6.size; omega
theorem Two.q' {F W w a r size lp lr} (h : Two F W w a r size lp lr) {fn : Nat} {args : Array Value} {E : Ending} {lr' : List AF} (f : ∀ T v, RefM w T r size v lr → (∀ k, T k → ¬ F k) → Calls Try.prog fn args w fun e w' => e = E ∧ RAfter T w w' r size lr') :
    Calls Try.prog fn args w fun e w' => e = E ∧ Two F W w' a r size lp lr' := by
  obtain ⟨S, T, v, h1, h2, h3, h4, h5, h6⟩ := h
  refine (f T v h2 h5).mono ?_
  rintro e w1 ⟨he, T', v', hd, s1, s2, hk⟩
  refine ⟨he, S, T', v', h1.beside hk h3, hd, fun k hS hT => ?_, h4, fun k hT hF => ?_, h6.keeps hk h5⟩
  · rcases s1 k hT with h | h
    · exact h3 k hS h
    · have := h1.below k hS; omega
  · rcases s1 k hT with h | h
    · exact h5 k h hF
    · have := h6.low k hF; have := h6.size; omega
/-- What a call leaves: both alike. -/
def Done (F : Nat → Prop) (W : World) (a r size : Nat) (e : Ending) (w' : World) : Prop := e = .returned (.bool true) ∧ ∃ l', Two F W w' a r size l' l'

set_option maxHeartbeats 3200000 in
theorem does0 {F : Nat → Prop} {W w : World} {a r size : Nat} {l : List AF} (h : Two F W w a r size l l) (kind : Int) (name b : ByteArray) (n : Int) (oa : Option Addr) (ks : List Int) (kc : Nat) (hn : name.size ≤ maxLen) (hb : b.size ≤ maxLen) (HPk : Hid (∀ wx, Calls Try.prog 17 #[.int .i64 kind, .int .i64 10] wx fun e w' => e = .returned (.int .i64 0) ∧ w' = wx)) :
    Calls Try.prog 12 #[.pointer (some ⟨a, 0, none⟩), .pointer (some ⟨r, 0, none⟩), .agg #[.int .i64 kind, .string name, .string b, .int .i64 n, .slice oa ks.length kc]] w fun e w' => Done F W a r size e w' := by
  have HT := hid (h.hold (.cells #[.int .i64 kind, .string name, .string b, .int .i64 n, .slice oa ks.length kc] 33))
  have HL := hid h.lok
  have H0 := hid h
  have o1 : (w.alloc (.cells #[.int .i64 kind, .string name, .string b, .int .i64 n, .slice oa ks.length kc] 33)).cell? ⟨w.heap.size, 1, none⟩ = some (.string name) := cell_new33 w rfl
  have o2 : (w.alloc (.cells #[.int .i64 kind, .string name, .string b, .int .i64 n, .slice oa ks.length kc] 33)).cell? ⟨w.heap.size, 2, none⟩ = some (.string b) := cell_new33 w rfl
  have o3 : (w.alloc (.cells #[.int .i64 kind, .string name, .string b, .int .i64 n, .slice oa ks.length kc] 33)).cell? ⟨w.heap.size, 3, none⟩ = some (.int .i64 n) := cell_new33 w rfl
  have o4 : (w.alloc (.cells #[.int .i64 kind, .string name, .string b, .int .i64 n, .slice oa ks.length kc] 33)).cell? ⟨w.heap.size, 4, none⟩ = some (.slice oa ks.length kc) := cell_new33 w rfl
  clear h
  go_enter Try.func12, Try.ntmps12
  go_wp2_with fail
  refine (HPk.out _).mono ?_
  rintro e w3 ⟨rfl, h⟩
  have h' := h.symm
  subst h'
  clear h HPk
  go_wp2_with fail
  go_region_held (fun w' => w'.cell? ⟨w.heap.size, 1, none⟩ = some (.string name) ∧ w'.cell? ⟨w.heap.size, 2, none⟩ = some (.string b)) (first | assumption | exact ⟨by assumption, by assumption⟩ | go_keep)
    (first
      | (go_at_call 15; refine ((HT.out.drew).p (fun S hd => appendA hd name b hn hb)).mono ?_; rintro e w4 ⟨rfl, h4⟩; have H4 := hid h4; have z1 := (h4.frm).cell (.inr rfl) o1; have z2 := (h4.frm).cell (.inr rfl) o2; clear h4)
      | (go_at_call 28; refine (H4.out.q (fun T v hr => rappend_any hr HL.out name b hn hb)).mono ?_; rintro e w5 ⟨rfl, h5⟩; have HT2 := hid h5; have y1 := (h5.frm).cell (.inr rfl) o1; have y2 := (h5.frm).cell (.inr rfl) o2; clear h5))
  go_wp2_with fail
  go_ret
  exact ⟨rfl, _, Two.release H0.out HT2.out⟩

set_option maxHeartbeats 3200000 in
theorem does1 {F : Nat → Prop} {W w : World} {a r size : Nat} {l : List AF} (h : Two F W w a r size l l) (kind : Int) (name b : ByteArray) (n : Int) (oa : Option Addr) (ks : List Int) (kc : Nat) (hn : name.size ≤ maxLen) (hb : b.size ≤ maxLen) (HPk : Hid (∀ wx, Calls Try.prog 17 #[.int .i64 kind, .int .i64 10] wx fun e w' => e = .returned (.int .i64 1) ∧ w' = wx)) :
    Calls Try.prog 12 #[.pointer (some ⟨a, 0, none⟩), .pointer (some ⟨r, 0, none⟩), .agg #[.int .i64 kind, .string name, .string b, .int .i64 n, .slice oa ks.length kc]] w fun e w' => Done F W a r size e w' := by
  have HT := hid (h.hold (.cells #[.int .i64 kind, .string name, .string b, .int .i64 n, .slice oa ks.length kc] 33))
  have HL := hid h.lok
  have H0 := hid h
  have o1 : (w.alloc (.cells #[.int .i64 kind, .string name, .string b, .int .i64 n, .slice oa ks.length kc] 33)).cell? ⟨w.heap.size, 1, none⟩ = some (.string name) := cell_new33 w rfl
  have o2 : (w.alloc (.cells #[.int .i64 kind, .string name, .string b, .int .i64 n, .slice oa ks.length kc] 33)).cell? ⟨w.heap.size, 2, none⟩ = some (.string b) := cell_new33 w rfl
  have o3 : (w.alloc (.cells #[.int .i64 kind, .string name, .string b, .int .i64 n, .slice oa ks.length kc] 33)).cell? ⟨w.heap.size, 3, none⟩ = some (.int .i64 n) := cell_new33 w rfl
  have o4 : (w.alloc (.cells #[.int .i64 kind, .string name, .string b, .int .i64 n, .slice oa ks.length kc] 33)).cell? ⟨w.heap.size, 4, none⟩ = some (.slice oa ks.length kc) := cell_new33 w rfl
  clear h
  go_enter Try.func12, Try.ntmps12
  go_wp2_with fail
  refine (HPk.out _).mono ?_
  rintro e w3 ⟨rfl, h⟩
  have h' := h.symm
  subst h'
  clear h HPk
  go_wp2_with fail
  go_region_held (fun w' => w'.cell? ⟨w.heap.size, 1, none⟩ = some (.string name) ∧ w'.cell? ⟨w.heap.size, 2, none⟩ = some (.string b)) (first | assumption | exact ⟨by assumption, by assumption⟩ | go_keep)
    (first
      | (go_at_call 15; refine ((HT.out.drew).p (fun S hd => appendA hd name b hn hb)).mono ?_; rintro e w4 ⟨rfl, h4⟩; have H4 := hid h4; have z1 := (h4.frm).cell (.inr rfl) o1; have z2 := (h4.frm).cell (.inr rfl) o2; clear h4)
      | (go_at_call 28; refine (H4.out.q (fun T v hr => rappend_any hr HL.out name b hn hb)).mono ?_; rintro e w5 ⟨rfl, h5⟩; have HT2 := hid h5; have y1 := (h5.frm).cell (.inr rfl) o1; have y2 := (h5.frm).cell (.inr rfl) o2; clear h5))
  go_wp2_with fail
  go_ret
  exact ⟨rfl, _, Two.release H0.out HT2.out⟩

set_option maxHeartbeats 3200000 in
theorem does2 {F : Nat → Prop} {W w : World} {a r size : Nat} {l : List AF} (h : Two F W w a r size l l) (kind : Int) (name b : ByteArray) (n : Int) (oa : Option Addr) (ks : List Int) (kc : Nat) (hn : name.size ≤ maxLen) (hb : b.size ≤ maxLen) (HPk : Hid (∀ wx, Calls Try.prog 17 #[.int .i64 kind, .int .i64 10] wx fun e w' => e = .returned (.int .i64 2) ∧ w' = wx)) :
    Calls Try.prog 12 #[.pointer (some ⟨a, 0, none⟩), .pointer (some ⟨r, 0, none⟩), .agg #[.int .i64 kind, .string name, .string b, .int .i64 n, .slice oa ks.length kc]] w fun e w' => Done F W a r size e w' := by
  have HT := hid (h.hold (.cells #[.int .i64 kind, .string name, .string b, .int .i64 n, .slice oa ks.length kc] 33))
  have HL := hid h.lok
  have H0 := hid h
  have o1 : (w.alloc (.cells #[.int .i64 kind, .string name, .string b, .int .i64 n, .slice oa ks.length kc] 33)).cell? ⟨w.heap.size, 1, none⟩ = some (.string name) := cell_new33 w rfl
  have o2 : (w.alloc (.cells #[.int .i64 kind, .string name, .string b, .int .i64 n, .slice oa ks.length kc] 33)).cell? ⟨w.heap.size, 2, none⟩ = some (.string b) := cell_new33 w rfl
  have o3 : (w.alloc (.cells #[.int .i64 kind, .string name, .string b, .int .i64 n, .slice oa ks.length kc] 33)).cell? ⟨w.heap.size, 3, none⟩ = some (.int .i64 n) := cell_new33 w rfl
  have o4 : (w.alloc (.cells #[.int .i64 kind, .string name, .string b, .int .i64 n, .slice oa ks.length kc] 33)).cell? ⟨w.heap.size, 4, none⟩ = some (.slice oa ks.length kc) := cell_new33 w rfl
  clear h
  go_enter Try.func12, Try.ntmps12
  go_wp2_with fail
  refine (HPk.out _).mono ?_
  rintro e w3 ⟨rfl, h⟩
  have h' := h.symm
  subst h'
  clear h HPk
  go_wp2_with fail
  go_region_held (fun w' => w'.cell? ⟨w.heap.size, 1, none⟩ = some (.string name) ∧ w'.cell? ⟨w.heap.size, 2, none⟩ = some (.string b)) (first | assumption | exact ⟨by assumption, by assumption⟩ | go_keep)
    (first
      | (go_at_call 15; refine ((HT.out.drew).p (fun S hd => appendA hd name b hn hb)).mono ?_; rintro e w4 ⟨rfl, h4⟩; have H4 := hid h4; have z1 := (h4.frm).cell (.inr rfl) o1; have z2 := (h4.frm).cell (.inr rfl) o2; clear h4)
      | (go_at_call 28; refine (H4.out.q (fun T v hr => rappend_any hr HL.out name b hn hb)).mono ?_; rintro e w5 ⟨rfl, h5⟩; have HT2 := hid h5; have y1 := (h5.frm).cell (.inr rfl) o1; have y2 := (h5.frm).cell (.inr rfl) o2; clear h5))
  go_wp2_with fail
  go_ret
  exact ⟨rfl, _, Two.release H0.out HT2.out⟩

set_option maxHeartbeats 3200000 in
theorem does3 {F : Nat → Prop} {W w : World} {a r size : Nat} {l : List AF} (h : Two F W w a r size l l) (kind : Int) (name b : ByteArray) (n : Int) (oa : Option Addr) (ks : List Int) (kc : Nat) (hn : name.size ≤ maxLen) (hb : b.size ≤ maxLen) (HPk : Hid (∀ wx, Calls Try.prog 17 #[.int .i64 kind, .int .i64 10] wx fun e w' => e = .returned (.int .i64 3) ∧ w' = wx)) :
    Calls Try.prog 12 #[.pointer (some ⟨a, 0, none⟩), .pointer (some ⟨r, 0, none⟩), .agg #[.int .i64 kind, .string name, .string b, .int .i64 n, .slice oa ks.length kc]] w fun e w' => Done F W a r size e w' := by
  have HT := hid (h.hold (.cells #[.int .i64 kind, .string name, .string b, .int .i64 n, .slice oa ks.length kc] 33))
  have HL := hid h.lok
  have H0 := hid h
  have o1 : (w.alloc (.cells #[.int .i64 kind, .string name, .string b, .int .i64 n, .slice oa ks.length kc] 33)).cell? ⟨w.heap.size, 1, none⟩ = some (.string name) := cell_new33 w rfl
  have o2 : (w.alloc (.cells #[.int .i64 kind, .string name, .string b, .int .i64 n, .slice oa ks.length kc] 33)).cell? ⟨w.heap.size, 2, none⟩ = some (.string b) := cell_new33 w rfl
  have o3 : (w.alloc (.cells #[.int .i64 kind, .string name, .string b, .int .i64 n, .slice oa ks.length kc] 33)).cell? ⟨w.heap.size, 3, none⟩ = some (.int .i64 n) := cell_new33 w rfl
  have o4 : (w.alloc (.cells #[.int .i64 kind, .string name, .string b, .int .i64 n, .slice oa ks.length kc] 33)).cell? ⟨w.heap.size, 4, none⟩ = some (.slice oa ks.length kc) := cell_new33 w rfl
  clear h
  go_enter Try.func12, Try.ntmps12
  go_wp2_with fail
  refine (HPk.out _).mono ?_
  rintro e w3 ⟨rfl, h⟩
  have h' := h.symm
  subst h'
  clear h HPk
  go_wp2_with fail
  go_region_held (fun w' => w'.cell? ⟨w.heap.size, 1, none⟩ = some (.string name)) (first | assumption | go_keep)
    (first
      | (go_at_call 18; refine ((HT.out.drew).p (fun S hd => syncA hd name hn)).mono ?_; rintro e w4 ⟨rfl, h4⟩; have H4 := hid h4; have z1 := (h4.frm).cell (.inr rfl) o1; clear h4)
      | (go_at_call 29; refine (H4.out.q (fun T v hr => rsync_any hr HL.out.len HL.out.srt name)).mono ?_; rintro e w5 ⟨rfl, h5⟩; have HT2 := hid h5; have y1 := (h5.frm).cell (.inr rfl) o1; clear h5))
  go_wp2_with fail
  go_ret
  exact ⟨rfl, _, Two.release H0.out HT2.out⟩

set_option maxHeartbeats 3200000 in
theorem does4 {F : Nat → Prop} {W w : World} {a r size : Nat} {l : List AF} (h : Two F W w a r size l l) (kind : Int) (name b : ByteArray) (n : Int) (oa : Option Addr) (ks : List Int) (kc : Nat) (hn : name.size ≤ maxLen) (hb : b.size ≤ maxLen) (HPk : Hid (∀ wx, Calls Try.prog 17 #[.int .i64 kind, .int .i64 10] wx fun e w' => e = .returned (.int .i64 4) ∧ w' = wx)) :
    Calls Try.prog 12 #[.pointer (some ⟨a, 0, none⟩), .pointer (some ⟨r, 0, none⟩), .agg #[.int .i64 kind, .string name, .string b, .int .i64 n, .slice oa ks.length kc]] w fun e w' => Done F W a r size e w' := by
  have HT := hid (h.hold (.cells #[.int .i64 kind, .string name, .string b, .int .i64 n, .slice oa ks.length kc] 33))
  have HL := hid h.lok
  have H0 := hid h
  have o1 : (w.alloc (.cells #[.int .i64 kind, .string name, .string b, .int .i64 n, .slice oa ks.length kc] 33)).cell? ⟨w.heap.size, 1, none⟩ = some (.string name) := cell_new33 w rfl
  have o2 : (w.alloc (.cells #[.int .i64 kind, .string name, .string b, .int .i64 n, .slice oa ks.length kc] 33)).cell? ⟨w.heap.size, 2, none⟩ = some (.string b) := cell_new33 w rfl
  have o3 : (w.alloc (.cells #[.int .i64 kind, .string name, .string b, .int .i64 n, .slice oa ks.length kc] 33)).cell? ⟨w.heap.size, 3, none⟩ = some (.int .i64 n) := cell_new33 w rfl
  have o4 : (w.alloc (.cells #[.int .i64 kind, .string name, .string b, .int .i64 n, .slice oa ks.length kc] 33)).cell? ⟨w.heap.size, 4, none⟩ = some (.slice oa ks.length kc) := cell_new33 w rfl
  clear h
  go_enter Try.func12, Try.ntmps12
  go_wp2_with fail
  refine (HPk.out _).mono ?_
  rintro e w3 ⟨rfl, h⟩
  have h' := h.symm
  subst h'
  clear h HPk
  go_wp2_with fail
  go_region_held (fun w' => w'.cell? ⟨w.heap.size, 1, none⟩ = some (.string name)) (first | assumption | go_keep)
    (first
      | (go_at_call 18; refine ((HT.out.drew).p (fun S hd => syncA hd name hn)).mono ?_; rintro e w4 ⟨rfl, h4⟩; have H4 := hid h4; have z1 := (h4.frm).cell (.inr rfl) o1; clear h4)
      | (go_at_call 29; refine (H4.out.q (fun T v hr => rsync_any hr HL.out.len HL.out.srt name)).mono ?_; rintro e w5 ⟨rfl, h5⟩; have HT2 := hid h5; have y1 := (h5.frm).cell (.inr rfl) o1; clear h5))
  go_wp2_with fail
  go_ret
  exact ⟨rfl, _, Two.release H0.out HT2.out⟩

set_option maxHeartbeats 3200000 in
theorem does5 {F : Nat → Prop} {W w : World} {a r size : Nat} {l : List AF} (h : Two F W w a r size l l) (kind : Int) (name b : ByteArray) (n : Int) (oa : Option Addr) (ks : List Int) (kc : Nat) (hn : name.size ≤ maxLen) (hb : b.size ≤ maxLen) (HPk : Hid (∀ wx, Calls Try.prog 17 #[.int .i64 kind, .int .i64 10] wx fun e w' => e = .returned (.int .i64 5) ∧ w' = wx)) :
    Calls Try.prog 12 #[.pointer (some ⟨a, 0, none⟩), .pointer (some ⟨r, 0, none⟩), .agg #[.int .i64 kind, .string name, .string b, .int .i64 n, .slice oa ks.length kc]] w fun e w' => Done F W a r size e w' := by
  have HT := hid (h.hold (.cells #[.int .i64 kind, .string name, .string b, .int .i64 n, .slice oa ks.length kc] 33))
  have HL := hid h.lok
  have H0 := hid h
  have o1 : (w.alloc (.cells #[.int .i64 kind, .string name, .string b, .int .i64 n, .slice oa ks.length kc] 33)).cell? ⟨w.heap.size, 1, none⟩ = some (.string name) := cell_new33 w rfl
  have o2 : (w.alloc (.cells #[.int .i64 kind, .string name, .string b, .int .i64 n, .slice oa ks.length kc] 33)).cell? ⟨w.heap.size, 2, none⟩ = some (.string b) := cell_new33 w rfl
  have o3 : (w.alloc (.cells #[.int .i64 kind, .string name, .string b, .int .i64 n, .slice oa ks.length kc] 33)).cell? ⟨w.heap.size, 3, none⟩ = some (.int .i64 n) := cell_new33 w rfl
  have o4 : (w.alloc (.cells #[.int .i64 kind, .string name, .string b, .int .i64 n, .slice oa ks.length kc] 33)).cell? ⟨w.heap.size, 4, none⟩ = some (.slice oa ks.length kc) := cell_new33 w rfl
  clear h
  go_enter Try.func12, Try.ntmps12
  go_wp2_with fail
  refine (HPk.out _).mono ?_
  rintro e w3 ⟨rfl, h⟩
  have h' := h.symm
  subst h'
  clear h HPk
  go_wp2_with fail
  have HB : Hid (∀ x ∈ l, x.bs.length ≤ 16777216 ∧ x.safe ≤ x.bs.length) := fun x hx => ⟨by have := total_mem hx; have := HL.out.total; have := HL.out.big; omega, (HL.out.safe x hx).1⟩
  go_region_held (fun w' => w'.cell? ⟨w.heap.size, 1, none⟩ = some (.string name) ∧ w'.cell? ⟨w.heap.size, 3, none⟩ = some (.int .i64 n)) (first | assumption | exact ⟨by assumption, by assumption⟩ | go_keep)
    (first
      | (go_at_call 30; refine ((HT.out.drew).p (fun S hd => cutA hd name hn n)).mono ?_; rintro e w4 ⟨rfl, h4⟩; have H4 := hid h4; have z1 := (h4.frm).cell (.inr rfl) o1; have z3 := (h4.frm).cell (.inr rfl) o3; clear h4)
      | (go_at_call 31; refine (H4.out.q (fun T v hr => rcut_any hr HL.out.len HL.out.srt HB.out name n)).mono ?_; rintro e w5 ⟨rfl, h5⟩; have HT2 := hid h5; have y1 := (h5.frm).cell (.inr rfl) o1; have y3 := (h5.frm).cell (.inr rfl) o3; clear h5))
  go_wp2_with fail
  go_ret
  exact ⟨rfl, _, Two.release H0.out HT2.out⟩

set_option maxHeartbeats 3200000 in
theorem does6 {F : Nat → Prop} {W w : World} {a r size : Nat} {l : List AF} (h : Two F W w a r size l l) (kind : Int) (name b : ByteArray) (n : Int) (oa : Option Addr) (ks : List Int) (kc : Nat) (hn : name.size ≤ maxLen) (hb : b.size ≤ maxLen) (HPk : Hid (∀ wx, Calls Try.prog 17 #[.int .i64 kind, .int .i64 10] wx fun e w' => e = .returned (.int .i64 6) ∧ w' = wx)) :
    Calls Try.prog 12 #[.pointer (some ⟨a, 0, none⟩), .pointer (some ⟨r, 0, none⟩), .agg #[.int .i64 kind, .string name, .string b, .int .i64 n, .slice oa ks.length kc]] w fun e w' => Done F W a r size e w' := by
  have HT := hid (h.hold (.cells #[.int .i64 kind, .string name, .string b, .int .i64 n, .slice oa ks.length kc] 33))
  have HL := hid h.lok
  have H0 := hid h
  have o1 : (w.alloc (.cells #[.int .i64 kind, .string name, .string b, .int .i64 n, .slice oa ks.length kc] 33)).cell? ⟨w.heap.size, 1, none⟩ = some (.string name) := cell_new33 w rfl
  have o2 : (w.alloc (.cells #[.int .i64 kind, .string name, .string b, .int .i64 n, .slice oa ks.length kc] 33)).cell? ⟨w.heap.size, 2, none⟩ = some (.string b) := cell_new33 w rfl
  have o3 : (w.alloc (.cells #[.int .i64 kind, .string name, .string b, .int .i64 n, .slice oa ks.length kc] 33)).cell? ⟨w.heap.size, 3, none⟩ = some (.int .i64 n) := cell_new33 w rfl
  have o4 : (w.alloc (.cells #[.int .i64 kind, .string name, .string b, .int .i64 n, .slice oa ks.length kc] 33)).cell? ⟨w.heap.size, 4, none⟩ = some (.slice oa ks.length kc) := cell_new33 w rfl
  clear h
  go_enter Try.func12, Try.ntmps12
  go_wp2_with fail
  refine (HPk.out _).mono ?_
  rintro e w3 ⟨rfl, h⟩
  have h' := h.symm
  subst h'
  clear h HPk
  go_wp2_with fail
  go_region_held (fun w' => w'.cell? ⟨w.heap.size, 1, none⟩ = some (.string name) ∧ w'.cell? ⟨w.heap.size, 2, none⟩ = some (.string b)) (first | assumption | exact ⟨by assumption, by assumption⟩ | go_keep)
    (first
      | (go_at_call 22; refine ((HT.out.drew).p (fun S hd => replaceA hd name b hn hb)).mono ?_; rintro e w4 ⟨rfl, h4⟩; have H4 := hid h4; have z1 := (h4.frm).cell (.inr rfl) o1; have z2 := (h4.frm).cell (.inr rfl) o2; clear h4)
      | (go_at_call 32; refine (H4.out.q (fun T v hr => rreplace_any hr HL.out name b hn hb)).mono ?_; rintro e w5 ⟨rfl, h5⟩; have HT2 := hid h5; have y1 := (h5.frm).cell (.inr rfl) o1; have y2 := (h5.frm).cell (.inr rfl) o2; clear h5))
  go_wp2_with fail
  go_ret
  exact ⟨rfl, _, Two.release H0.out HT2.out⟩

set_option maxHeartbeats 3200000 in
theorem does7 {F : Nat → Prop} {W w : World} {a r size : Nat} {l : List AF} (h : Two F W w a r size l l) (kind : Int) (name b : ByteArray) (n : Int) (oa : Option Addr) (ks : List Int) (kc : Nat) (hn : name.size ≤ maxLen) (hb : b.size ≤ maxLen) (HPk : Hid (∀ wx, Calls Try.prog 17 #[.int .i64 kind, .int .i64 10] wx fun e w' => e = .returned (.int .i64 7) ∧ w' = wx)) :
    Calls Try.prog 12 #[.pointer (some ⟨a, 0, none⟩), .pointer (some ⟨r, 0, none⟩), .agg #[.int .i64 kind, .string name, .string b, .int .i64 n, .slice oa ks.length kc]] w fun e w' => Done F W a r size e w' := by
  have HT := hid (h.hold (.cells #[.int .i64 kind, .string name, .string b, .int .i64 n, .slice oa ks.length kc] 33))
  have HL := hid h.lok
  have H0 := hid h
  have o1 : (w.alloc (.cells #[.int .i64 kind, .string name, .string b, .int .i64 n, .slice oa ks.length kc] 33)).cell? ⟨w.heap.size, 1, none⟩ = some (.string name) := cell_new33 w rfl
  have o2 : (w.alloc (.cells #[.int .i64 kind, .string name, .string b, .int .i64 n, .slice oa ks.length kc] 33)).cell? ⟨w.heap.size, 2, none⟩ = some (.string b) := cell_new33 w rfl
  have o3 : (w.alloc (.cells #[.int .i64 kind, .string name, .string b, .int .i64 n, .slice oa ks.length kc] 33)).cell? ⟨w.heap.size, 3, none⟩ = some (.int .i64 n) := cell_new33 w rfl
  have o4 : (w.alloc (.cells #[.int .i64 kind, .string name, .string b, .int .i64 n, .slice oa ks.length kc] 33)).cell? ⟨w.heap.size, 4, none⟩ = some (.slice oa ks.length kc) := cell_new33 w rfl
  clear h
  go_enter Try.func12, Try.ntmps12
  go_wp2_with fail
  refine (HPk.out _).mono ?_
  rintro e w3 ⟨rfl, h⟩
  have h' := h.symm
  subst h'
  clear h HPk
  go_wp2_with fail
  go_region_held (fun w' => w'.cell? ⟨w.heap.size, 1, none⟩ = some (.string name) ∧ w'.cell? ⟨w.heap.size, 2, none⟩ = some (.string b)) (first | assumption | exact ⟨by assumption, by assumption⟩ | go_keep)
    (first
      | (go_at_call 33; refine ((HT.out.drew).p (fun S hd => renameA hd name b hn hb)).mono ?_; rintro e w4 ⟨rfl, h4⟩; have H4 := hid h4; have z1 := (h4.frm).cell (.inr rfl) o1; have z2 := (h4.frm).cell (.inr rfl) o2; clear h4)
      | (go_at_call 34; refine (H4.out.q (fun T v hr => rrename_any hr HL.out name b hn hb)).mono ?_; rintro e w5 ⟨rfl, h5⟩; have HT2 := hid h5; have y1 := (h5.frm).cell (.inr rfl) o1; have y2 := (h5.frm).cell (.inr rfl) o2; clear h5))
  go_wp2_with fail
  go_ret
  exact ⟨rfl, _, Two.release H0.out HT2.out⟩

set_option maxHeartbeats 3200000 in
theorem does8a {F : Nat → Prop} {W w : World} {a r size : Nat} {l : List AF} (h : Two F W w a r size l l) (kind : Int) (name b : ByteArray) (n : Int) (oa : Option Addr) (ks : List Int) (kc : Nat) (hn : name.size ≤ maxLen) (hb : b.size ≤ maxLen) (hpar : n.tmod 2 = 0) (HPk : Hid (∀ wx, Calls Try.prog 17 #[.int .i64 kind, .int .i64 10] wx fun e w' => e = .returned (.int .i64 8) ∧ w' = wx)) :
    Calls Try.prog 12 #[.pointer (some ⟨a, 0, none⟩), .pointer (some ⟨r, 0, none⟩), .agg #[.int .i64 kind, .string name, .string b, .int .i64 n, .slice oa ks.length kc]] w fun e w' => Done F W a r size e w' := by
  have HT := hid (h.hold (.cells #[.int .i64 kind, .string name, .string b, .int .i64 n, .slice oa ks.length kc] 33))
  have HL := hid h.lok
  have H0 := hid h
  have o1 : (w.alloc (.cells #[.int .i64 kind, .string name, .string b, .int .i64 n, .slice oa ks.length kc] 33)).cell? ⟨w.heap.size, 1, none⟩ = some (.string name) := cell_new33 w rfl
  have o2 : (w.alloc (.cells #[.int .i64 kind, .string name, .string b, .int .i64 n, .slice oa ks.length kc] 33)).cell? ⟨w.heap.size, 2, none⟩ = some (.string b) := cell_new33 w rfl
  have o3 : (w.alloc (.cells #[.int .i64 kind, .string name, .string b, .int .i64 n, .slice oa ks.length kc] 33)).cell? ⟨w.heap.size, 3, none⟩ = some (.int .i64 n) := cell_new33 w rfl
  have o4 : (w.alloc (.cells #[.int .i64 kind, .string name, .string b, .int .i64 n, .slice oa ks.length kc] 33)).cell? ⟨w.heap.size, 4, none⟩ = some (.slice oa ks.length kc) := cell_new33 w rfl
  clear h
  go_enter Try.func12, Try.ntmps12
  go_wp2_with fail
  refine (HPk.out _).mono ?_
  rintro e w3 ⟨rfl, h⟩
  have h' := h.symm
  subst h'
  clear h HPk
  go_wp2_with fail
  go_region_held (fun w' => w'.cell? ⟨w.heap.size, 1, none⟩ = some (.string name)) (first | assumption | go_keep)
    (first
      | (go_at_call 35; refine ((HT.out.drew).p (fun S hd => removeA hd name hn)).mono ?_; rintro e w4 ⟨rfl, h4⟩; have H4 := hid h4; have z1 := (h4.frm).cell (.inr rfl) o1; clear h4)
      | (go_at_call 36; refine (H4.out.q (fun T v hr => rremove_any hr HL.out.len HL.out.srt name)).mono ?_; rintro e w5 ⟨rfl, h5⟩; have HT2 := hid h5; have y1 := (h5.frm).cell (.inr rfl) o1; clear h5))
  go_wp2_with fail
  go_ret
  exact ⟨rfl, _, Two.release H0.out HT2.out⟩
end Go.Proofs.Ytpdghpmfacaglaa
