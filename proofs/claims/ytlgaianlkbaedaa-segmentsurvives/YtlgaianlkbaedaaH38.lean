/- Safe of the first batch, Append out of order, Bytes; a crash, and Open behind it. -/
import Derived.Test.YtlgaianlkbaedaaH37
import Derived.Test.YtlgaianlkbaedaaH35
namespace Go.Proofs.Ytlgaianlkbaedaa
open Go.RowKit Go.Maps Go.Sort
set_option linter.unusedSimpArgs false
set_option linter.unusedVariables false

theorem SO.order {w0 w : World} {X : Nat → Prop} {q a base size bs safe} (h : SO w0 w X q a base size bs safe) (N : Nat) (hN : N ≠ (endM ⟨base, 0, 0⟩ bs).base) (n : Nat) (h1 : 1 ≤ n) (h2 : n ≤ 30) (h3 : N + n ≤ 1000000000) (rv : Value) (hr : Recs w rv (List.replicate n smallR)) :
    Calls Try.prog 14 #[.pointer (some ⟨q, 0, none⟩), .agg #[.int .i64 (N : Int), .int .i64 1, .int .i64 0, .int .i64 0, .int .i64 0, rv]] w fun e w' => e = .returned (.int .i64 11) ∧ Below w.heap.size w w' := by
  obtain ⟨⟨B, g1, g2⟩, g3, g4⟩ := h
  obtain ⟨ra, rc, rfl, _⟩ := hr.shape
  exact sapp_no2 g1.sd g1.ends (smallB N n) ra rc (by simpa [smallB] using hr) (smallB_ints _ _ (by omega)) (smallB_right N n h1 h2 h3) (by simp [smallB]; omega)
theorem SO.bytes {w0 w : World} {X : Nat → Prop} {q a base size bs safe} (h : SO w0 w X q a base size bs safe) :
    Calls Try.prog 25 #[.pointer (some ⟨q, 0, none⟩)] w fun e w' => e = .returned (.int .i64 ((fileL bs).length : Int)) ∧ Below w.heap.size w w' := by
  obtain ⟨⟨B, g1, g2⟩, g3, g4⟩ := h
  have := sbytes_any g1.sd (name_le g1.name)
  rw [one_bytes] at this
  exact this
/-- Nothing is safe yet. -/
theorem SO.safeNone {w0 w : World} {X : Nat → Prop} {q a base size b r} (h : SO w0 w X q a base size (b :: r) 0) :
    Calls Try.prog 17 #[.pointer (some ⟨q, 0, none⟩)] w fun e w' => e = .returned (.int .i64 (base : Int)) ∧ Below w.heap.size w w' := by
  obtain ⟨⟨B, g1, g2⟩, g3, g4⟩ := h
  have hge : ∀ t, 0 < t → 0 < (endM ⟨base, 0, 0⟩ ((b :: r).take t)).at_ := fun t ht => by
    have h1 := fileL_length_ge ((b :: r).take t) _ (fits_take _ _ t g1.fits)
    rw [endM_at]
    simp at h1 ⊢
    omega
  have hP : decide (((0 : Nat) : Int) < ((endM ⟨base, 0, 0⟩ (b :: r)).at_ : Int)) = true := by
    have := hge (r.length + 1) (by omega)
    rw [List.take_of_length_le (by simp)] at this
    simpa using this
  have hs : asafe (one sName (fileL (b :: r)) 0) sName.data.toList = 0 := one_safe _ _ _
  refine (ssafe_yes g1.sd (name_le g1.name) (by rw [hs]; exact hP) g1.base g1.many.1 (l := fileL (b :: r)) (by rw [one_bytes]) g1.marks).mono fun e w' ⟨⟨R, e1, e2⟩, e3⟩ => ⟨?_, e3⟩
  rw [hs] at e1
  obtain ⟨n, n1, n2, n3, n4⟩ := seekAt_file g1.fits (fun i j hij hj hP => by have := (endM_mono (b :: r) ⟨base, 0, 0⟩ i j hij).2; simp at hP ⊢; omega) hP (by simp) e1
  have hn : n = 0 := by
    rcases Nat.eq_zero_or_pos n with h0 | h0
    · exact h0
    · have := n4 n h0 (Nat.le_refl _)
      have h5 := hge n h0
      simp at this
      omega
  subst hn
  rw [e2, n2]
  rfl
/-- The disk of a segment. -/
theorem SO.disk {w0 w : World} {X : Nat → Prop} {q a base size bs safe} (h : SO w0 w X q a base size bs safe) : ∃ S, DiskA w S a size (one sName (fileL bs) safe) ∧ ∀ k, S k → w0.heap.size ≤ k ∧ ¬ X k := by
  obtain ⟨⟨B, g1, g2⟩, g3, g4⟩ := h
  obtain ⟨U, S, v, h1, h2, h3, h4⟩ := g1.sd
  exact ⟨S, h2, fun k hk => g2 k ((h4 k).2 (.inr hk))⟩
/-- A disk of the file of a segment, behind a world's end. -/
structure DO (w0 w : World) (X : Nat → Prop) (a size : Nat) (l : List AF) : Prop where
  d : ∃ S, DiskA w S a size l ∧ ∀ k, S k → w0.heap.size ≤ k ∧ ¬ X k
  xlt : ∀ k, X k → k < w.heap.size
  below : Below w0.heap.size w0 w
theorem DO.step {w0 w w' : World} {X S : Nat → Prop} {a size l'} (hS : ∀ k, S k → w0.heap.size ≤ k ∧ ¬ X k) (hx : ∀ k, X k → k < w.heap.size) (hb : Below w0.heap.size w0 w) (h : AfterA S w w' a size l') : DO w0 w' X a size l' ∧ KX X w w' ∧ w.heap.size ≤ w'.heap.size := by
  obtain ⟨S', h1, h2, _, hk⟩ := h
  have hs := hk.size
  have hs0 := hb.size
  refine ⟨⟨⟨S', h1, fun k hk' => ?_⟩, fun k hk' => Nat.lt_of_lt_of_le (hx k hk') hs, hb.trans (hk.below hs0 (fun k hk' => (hS k hk').1))⟩, fun k hk' => hk.block k (hx k hk') (fun hB' => (hS k hB').2 hk'), hs⟩
  rcases h2 k hk' with h | h
  · exact hS k h
  · exact ⟨by omega, fun hX => by have := hx k hX; omega⟩
theorem DO.under {w0 w w1 : World} {X : Nat → Prop} {a size l} (h : DO w0 w X a size l) (hb : Below w.heap.size w w1) : DO w0 w1 X a size l := by
  obtain ⟨⟨S, h1, h2⟩, h3, h4⟩ := h
  exact ⟨⟨S, h1.under hb, h2⟩, fun k hk => Nat.lt_of_lt_of_le (h3 k hk) hb.size, h4.trans (hb.mono h4.size)⟩
theorem SO.onDisk {w0 w : World} {X : Nat → Prop} {q a base size bs safe} (h : SO w0 w X q a base size bs safe) : DO w0 w X a size (one sName (fileL bs) safe) := ⟨h.disk, h.xlt, h.below⟩
/-- A crash. -/
theorem DO.crash {w0 w : World} {X : Nat → Prop} {a size bs safe} (h : DO w0 w X a size (one sName (fileL bs) safe)) (hs : safe ≤ (fileL bs).length) (oa : Option Addr) (ks : List Int) (cap : Nat) (hk : dIntsAt w oa ks) (hlen : ks.length ≤ maxLen) (hkS : ks ≠ [] → ∀ b off, oa = some ⟨b, off, none⟩ → b < w0.heap.size ∨ X b) :
    Calls Try.prog 16 #[.pointer (some ⟨a, 0, none⟩), .slice oa ks.length cap] w fun e w' => e = .returned (.tuple #[]) ∧ DO w0 w' X a size (crashL ks 0 1 (one sName (fileL bs) safe)) ∧ KX X w w' ∧ w.heap.size ≤ w'.heap.size := by
  obtain ⟨⟨S, h1, h2⟩, h3, h4⟩ := h
  refine (crashA h1 oa ks cap hk hlen (fun hne b off e hS => ?_)).mono fun e w' ⟨e1, e2⟩ => ⟨e1, DO.step h2 h3 h4 e2⟩
  have := h2 b hS
  rcases hkS hne b off e with h | h
  · omega
  · exact this.2 h
/-- Open of what is left of a file. -/
theorem DO.open {w0 w : World} {X : Nat → Prop} {a size safe} (base : Nat) (bs : List Bat) (rest : List UInt8) (h : DO w0 w X a size (one sName (fileL bs ++ rest) safe)) (hbase : base ≤ 1000000000) (hF : Fits ⟨base, 0, 0⟩ bs) (hR : ∀ m, stepL m rest = none) :
    Calls Try.prog 10 #[.pointer (some ⟨a, 0, none⟩), .string sName, .int .i64 (base : Int)] w fun e w' => ∃ q, e = .returned (.tuple #[.pointer (some ⟨q, 0, none⟩), .int .i64 (rest.length : Int), .int .i64 0]) ∧ SO w0 w' X q a base size bs (fileL bs).length ∧ KX X w w' ∧ w.heap.size ≤ w'.heap.size := by
  obtain ⟨⟨S, h1, h2⟩, h3, h4⟩ := h
  refine (sb_open base bs rest h1 sName_ok hbase hF hR).mono fun e w' ⟨q, B, e1, e2, e3, e4, e5, e6⟩ => ?_
  have hs := e6.size
  have hs0 := h4.size
  refine ⟨q, e1, ⟨⟨B, e3, fun k hk => ?_⟩, fun k hk => Nat.lt_of_lt_of_le (h3 k hk) hs, h4.trans (e6.below hs0 (fun k hk => (h2 k hk).1))⟩, fun k hk => e6.block k (h3 k hk) (fun hS => (h2 k hS).2 hk), hs⟩
  rcases e4 k hk with h | h
  · exact h2 k h
  · exact ⟨by omega, fun hX => by have := h3 k hX; omega⟩
/-- The batches of a file that was cut somewhere. -/
theorem cut_open (bs : List Bat) (base k : Nat) (hF : Fits ⟨base, 0, 0⟩ bs) (hk : k ≤ (fileL bs).length) : ∃ n rest, n ≤ bs.length ∧ (fileL bs).take k = fileL (bs.take n) ++ rest ∧ (fileL (bs.take n)).length + rest.length = k ∧ (n = bs.length ∧ rest = [] ∨ k < (fileL (bs.take (n + 1))).length) ∧ (∀ m, stepL m rest = none) ∧ Fits ⟨base, 0, 0⟩ (bs.take n) := by
  obtain ⟨n, rest, h1, h2, h3, h4, h5⟩ := file_take bs ⟨base, 0, 0⟩ k hF hk
  have := congrArg List.length h2
  rw [List.length_append, List.length_take] at this
  exact ⟨n, rest, h1, h2, by omega, h4, h5, fits_take bs _ n hF⟩
/-- The segment's own blocks set apart from its disk's. -/
theorem SO.part {w0 w : World} {X : Nat → Prop} {q a base size bs safe} (h : SO w0 w X q a base size bs safe) : ∃ U v, SegM w U q a base sName (endM ⟨base, 0, 0⟩ bs) v (idxM ⟨base, 0, 0⟩ [] bs) ∧ DO w0 w (fun k => X k ∨ U k) a size (one sName (fileL bs) safe) := by
  obtain ⟨⟨B, g1, g2⟩, g3, g4⟩ := h
  obtain ⟨U, S, v, h1, h2, h3, h4⟩ := g1.sd
  refine ⟨U, v, h1, ⟨S, h2, fun k hk => ⟨(g2 k ((h4 k).2 (.inr hk))).1, fun hX => ?_⟩⟩, fun k hk => ?_, g4⟩
  · rcases hX with hX | hX
    · exact (g2 k ((h4 k).2 (.inr hk))).2 hX
    · exact h3 k hk hX
  · rcases hk with hk | hk
    · exact g3 k hk
    · exact h1.below k hk
/-- A copy of the disk, behind this world's end. -/
theorem SO.clone {w0 w : World} {X : Nat → Prop} {q a base size bs safe} (h : SO w0 w X q a base size bs safe) :
    Calls Try.prog 20 #[.pointer (some ⟨a, 0, none⟩)] w fun e w' => e = .returned (.pointer (some ⟨w.heap.size, 0, none⟩)) ∧ DO w w' (fun _ => False) w.heap.size size (one sName (fileL bs) safe) := by
  obtain ⟨S, h1, h2⟩ := h.disk
  exact (cloneA h1).mono fun e w' ⟨e1, S', e2, e3, e4⟩ => ⟨e1, ⟨S', e2, fun k hk => ⟨e3 k hk, fun h => h⟩⟩, fun k hk => (by cases hk), e4⟩
end Go.Proofs.Ytlgaianlkbaedaa

/- Numbers that came in; Open on a new disk. -/
namespace Go.Proofs.Ytlgaianlkbaedaa
open Go.RowKit Go.Maps Go.Sort
set_option maxRecDepth 100000
set_option linter.unusedSimpArgs false
set_option linter.unusedVariables false

/-- Numbers that came in, below a world's end. -/
structure Nums (w : World) (oa : Option Addr) (ks : List Int) : Prop where
  at_ : dIntsAt w oa ks
  lt : ks ≠ [] → ∀ b off, oa = some ⟨b, off, none⟩ → b < w.heap.size
  len : ks.length ≤ maxLen
theorem Nums.get {w w1 : World} {oa : Option Addr} {ks : List Int} (h : Nums w oa ks) (hb : Below w.heap.size w w1) (k : Nat) (hk : k < ks.length) : ∃ b off, oa = some ⟨b, off, none⟩ ∧ w1.cell? ⟨b, off + k, none⟩ = some (.int .i64 ks[k]) ∧ -9223372036854775808 ≤ ks[k] ∧ ks[k] ≤ 9223372036854775807 := by
  have hne : ks ≠ [] := fun e => by rw [e] at hk; simp at hk
  rcases h.at_ with h0 | ⟨b, off, e, hc⟩
  · exact absurd h0 hne
  · have := hc k hk
    exact ⟨b, off, e, (World.cell?_of_block (hb.block b (h.lt hne b off e))).trans this.1, this.2.1, this.2.2⟩
theorem Nums.cell {w w1 : World} {b off : Nat} {ks : List Int} (h : Nums w (some ⟨b, off, none⟩) ks) (hb : Below w.heap.size w w1) (k : Nat) (hk : k < ks.length) : w1.cell? ⟨b, off + k, none⟩ = some (.int .i64 ks[k]) := by
  obtain ⟨b', off', e, h1, _⟩ := h.get hb k hk
  cases e
  exact h1
/-- pick, and one more. -/
theorem pick_one (c : Int) (m : Nat) (h1 : -9223372036854775808 ≤ c) (h2 : c ≤ 9223372036854775807) (hm : 1 ≤ m) (hm2 : m ≤ 5000) (M : Int) (hM : M = (m : Int)) : ∃ (r : Int) (n : Nat), 1 + r = (n : Int) ∧ 0 ≤ r ∧ r < M ∧ 1 ≤ n ∧ n ≤ m ∧ ∀ W, Calls Try.prog 13 #[.int .i64 c, .int .i64 M] W fun e w' => e = .returned (.int .i64 r) ∧ w' = W := by
  subst hM
  have hr := pickI_range c m (by omega)
  exact ⟨pickI c m, (1 + pickI c m).toNat, by omega, hr.1, hr.2, by omega, by omega, fun W => pick_any c m W h1 h2 (by omega) (by omega)⟩
/-- Open on a new disk. -/
theorem so_new {w0 w : World} {S : Nat → Prop} {a size : Nat} (base : Nat) (hD : DiskA w S a size []) (hb : Below w0.heap.size w0 w) (hS : ∀ k, S k → w0.heap.size ≤ k) (hbase : base ≤ 1000000000) :
    Calls Try.prog 10 #[.pointer (some ⟨a, 0, none⟩), .string sName, .int .i64 (base : Int)] w fun e w' => ∃ q, e = .returned (.tuple #[.pointer (some ⟨q, 0, none⟩), .int .i64 0, .int .i64 0]) ∧ SO w0 w' (fun _ => False) q a base size [] 0 ∧ w.heap.size ≤ w'.heap.size := by
  refine (sb_new base hD sName_ok hbase).mono fun e w' ⟨q, B, e1, e2, e3, e4, e5, e6⟩ => ⟨q, e1, ⟨⟨B, e3, fun k hk => ⟨?_, fun h => h⟩⟩, fun k hk => (by cases hk), ?_⟩, e6.size⟩
  · rcases e4 k hk with h | h
    · exact hS k h
    · have := hb.size; omega
  · exact hb.trans (e6.below hb.size hS)
end Go.Proofs.Ytlgaianlkbaedaa

/- filled. -/
namespace Go.Proofs.Ytlgaianlkbaedaa
open Go.RowKit Go.Maps Go.Sort
set_option maxRecDepth 100000
set_option linter.unusedSimpArgs false
set_option linter.unusedVariables false

set_option maxHeartbeats 3200000 in
theorem filled_any (w : World) (base : Nat) (hbase : base ≤ 1000) (oa : Option Addr) (ks : List Int) (cap : Nat) (hk : Nums w oa ks) :
    Calls Try.prog 21 #[.int .i64 (base : Int), .slice oa ks.length cap] w fun e w' => ∃ q a bs, e = .returned (.pointer (some ⟨q, 0, none⟩)) ∧ bs.length = min ks.length 60 ∧ Smalls bs ∧ SO w w' (fun _ => False) q a base 2000000 bs 0 := by
  have hlen := hk.len
  unfold maxLen at hlen
  have HK := hid hk
  clear hk
  have H9 : Hid (Calls Try.prog 9 #[.int .i64 2000000] w fun e w' => e = .returned (.tuple #[.pointer (some ⟨w.heap.size, 0, none⟩), .int .i64 0]) ∧ DiskA w' (fun k => k = w.heap.size) w.heap.size 2000000 [] ∧ Below w.heap.size w w') := newA 2000000 w (by decide) (by decide)
  go_enter Try.func21, Try.ntmps21
  go_wp2_with fail
  refine H9.out.mono ?_
  rintro e w1 ⟨rfl, hD1, hb1⟩
  have H10 : Hid (Calls Try.prog 10 #[.pointer (some ⟨w.heap.size, 0, none⟩), .string ⟨#[115]⟩, .int .i64 (base : Int)] w1 _) := so_new base hD1 hb1 (fun k hk => Nat.le_of_eq hk.symm) (by omega)
  clear H9 hD1 hb1
  go_wp2_with fail
  refine H10.out.mono ?_
  rintro e w2 ⟨q, rfl, hSO, _⟩
  have HS0 := hid hSO
  clear hSO H10
  go_wp2_with fail
  go_loopg [9] ks.length (fun kx s7 wr => ∃ (k : Nat) (bs : List Bat), k ≤ ks.length ∧ k ≤ 60 ∧ ks.length - k ≤ kx ∧ s7 = .int .i64 (k : Int) ∧ Hid (bs.length = k ∧ Smalls bs ∧ SO w wr (fun _ => False) q w.heap.size base 2000000 bs 0))
  case atStart => exact ⟨0, [], by omega, by omega, by omega, rfl, rfl, Smalls.nil, HS0.out⟩
  case round =>
    obtain ⟨k, bs, hk1, hk2, hkx, rfl, HD⟩ := hrel
    clear HS0
    by_cases hlt : k < ks.length
    · have hlt' : (k : Int) < (ks.length : Int) := by omega
      by_cases h60 : k < 60
      · have h60' : (k : Int) < 60 := by omega
        obtain ⟨b, off, rfl, hcell, hr1, hr2⟩ := HK.out.get HD.out.2.2.below k hlt
        obtain ⟨r, n, hrn, hr0, hr30, hn1, hn30, hpick⟩ := pick_one ks[k] 30 hr1 hr2 (by decide) (by decide) 30 rfl
        have hend := HD.out.2.1.ends base
        have hfile := HD.out.2.1.file
        have hbl := HD.out.1
        rw [hbl] at hend hfile
        have HP := hid hpick
        have HCL : Hid (∀ W, Below w.heap.size w W → W.cell? ⟨b, off + k, none⟩ = some (.int .i64 ks[k])) := fun W hb => HK.out.cell hb k hlt
        have H12 : Hid (∀ W, Below wr.heap.size wr W → Calls Try.prog 12 #[.pointer (some ⟨q, 0, none⟩)] W fun e w' => e = .returned (.int .i64 ((endM ⟨base, 0, 0⟩ bs).base : Int)) ∧ w' = W) := fun W hb => (HD.out.2.2.under hb).next
        have hlen2 := smallB_len (endM ⟨base, 0, 0⟩ bs).base n hn1 hn30 (by omega)
        have H11 : Hid (∀ W, Calls Try.prog 11 #[.int .i64 ((endM ⟨base, 0, 0⟩ bs).base : Int), .int .i64 (n : Int)] W fun e w' => ∃ rv, e = .returned (.agg #[.int .i64 ((endM ⟨base, 0, 0⟩ bs).base : Int), .int .i64 1, .int .i64 0, .int .i64 0, .int .i64 0, rv]) ∧ Recs w' rv (List.replicate n smallR) ∧ (∀ k, rv.ownBlock = some k → W.heap.size ≤ k) ∧ Below W.heap.size W w') := fun W => small_any W _ n (by omega)
        have H14 : Hid (∀ W rv, Below wr.heap.size wr W → Recs W rv (List.replicate n smallR) → Calls Try.prog 14 #[.pointer (some ⟨q, 0, none⟩), .agg #[.int .i64 ((endM ⟨base, 0, 0⟩ bs).base : Int), .int .i64 1, .int .i64 0, .int .i64 0, .int .i64 0, rv]] W fun e w' => e = .returned (.int .i64 0) ∧ SO w w' (fun _ => False) q w.heap.size base 2000000 (bs ++ [smallB (endM ⟨base, 0, 0⟩ bs).base n]) 0 ∧ KX (fun _ => False) W w' ∧ W.heap.size ≤ w'.heap.size) := fun W rv hb hrv => (HD.out.2.2.under hb).append _ rfl n hn1 hn30 (by omega) (by omega) rv hrv (by omega)
        have HSM := hid (HD.out.2.1.push (endM ⟨base, 0, 0⟩ bs).base n hn1 hn30 (by omega))
        have hNX : ((endM ⟨base, 0, 0⟩ bs).base : Int) ≤ 4000 := by omega
        have hNX0 : (0 : Int) ≤ ((endM ⟨base, 0, 0⟩ bs).base : Int) := by omega
        have hwr : IntKind.i64.wrap (n : Int) = (n : Int) := by simp [IntKind.wrap, IntKind.bits, IntKind.signed]; omega
        clear hend hfile hlen2 hpick
        generalize smallB (endM ⟨base, 0, 0⟩ bs).base n = NB at *
        generalize ((endM ⟨base, 0, 0⟩ bs).base : Int) = NX at *
        generalize ks[k] = c at *
        go_wp2_with fail
        go_region_held3 (fun w' => w'.cell? ⟨b, off + k, none⟩ = some (.int .i64 c)) (go_keep)
          (first
          | (go_at_call 12; refine (H12.out _ (by repeat (first | exact Below.refl _ _ | apply Below.drew))).mono ?_; rintro e w4 ⟨rfl, rfl⟩)
          | (go_at_call 13; refine (HP.out _).mono ?_; rintro e w4 ⟨rfl, rfl⟩)
          | (go_at_call 11; refine (H11.out _).mono ?_; rintro e w5 ⟨rv, rfl, hr5, ho5, hb5⟩; have HB5 : Hid (Below wr.heap.size wr w5) := (by first | exact hb5 | exact (Below.refl _ _).drew.trans hb5 | exact (Below.refl _ _).drew.drew.trans hb5); have HR5 := hid hr5; have hc5 := (World.cell?_of_block (HB5.out.block b (World.block_lt_of_cell? _ _ hcell))).trans hcell; clear hr5 ho5 hb5)
          | (go_at_call 14; refine (H14.out _ _ (by first | exact HB5.out | exact HB5.out.drew | exact HB5.out.drew.drew) (by first | exact HR5.out | exact HR5.out.under (Below.refl _ _).drew)).mono ?_; rintro e w6 ⟨rfl, hso6, _, _⟩; have HS6 := hid hso6; have hc6 := HCL.out _ hso6.below; clear hso6)
          | fail)
        all_goals
          go_wp2_with fail
          go_roundg (ks.length - (k + 1))
          case measure => omega
          case rel => exact ⟨k + 1, bs ++ [NB], by omega, by omega, Nat.le_refl _, by go_num, by simp [hbl], HSM.out, HS6.out⟩
      · have h60' : ¬ (k : Int) < 60 := by omega
        go_wp2_with fail
        go_ret
        exact ⟨q, rfl, w.heap.size, bs, by have := HD.out.1; omega, HD.out.2.1, HD.out.2.2⟩
    · have hlt' : ¬ (k : Int) < (ks.length : Int) := by omega
      go_wp2_with fail
      go_ret
      exact ⟨q, rfl, w.heap.size, bs, by have := HD.out.1; omega, HD.out.2.1, HD.out.2.2⟩
end Go.Proofs.Ytlgaianlkbaedaa

/- The chapter's example: facts. -/
namespace Go.Proofs.Ytlgaianlkbaedaa
open Go.RowKit Go.Maps Go.Sort
set_option linter.unusedSimpArgs false
set_option linter.unusedVariables false
set_option maxRecDepth 100000

def b5 : Bat := smallB 5 1
def b6 : Bat := smallB 6 1
def n5 : Nat := (batchL b5).1.length
theorem n6_eq : (batchL b6).1.length = n5 := by
  unfold n5 b5 b6
  rw [batchL_len (smallB_right 5 1 (by decide) (by decide) (by decide)), batchL_len (smallB_right 6 1 (by decide) (by decide) (by decide))]
  rfl
theorem n5_ge : 8 ≤ n5 := by
  unfold n5 b5
  rw [batchL_len (smallB_right 5 1 (by decide) (by decide) (by decide))]
  omega
theorem n5_le : n5 ≤ 100 := smallB_len 5 1 (by decide) (by decide) (by decide)
theorem n6_le : (batchL b6).1.length ≤ 100 := by rw [n6_eq]; exact n5_le
theorem file5 : (fileL [b5]).length = n5 := by simp [fileL, n5]
theorem file56 : (fileL [b5, b6]).length = 2 * n5 := by
  simp only [fileL, List.length_append, List.length_nil, n6_eq]
  unfold n5
  omega
theorem crash56 : crashL [(n5 : Int) - 1] 0 1 (one sName (fileL [b5, b6]) n5) = one sName ((fileL [b5, b6]).take (2 * n5 - 1)) (2 * n5 - 1) := by
  have hk : keptN [(n5 : Int) - 1] 0 ((fileL [b5, b6]).length - n5) = n5 - 1 := by
    have h8 := n5_ge
    rw [file56]
    unfold keptN
    simp only [List.getElem?_cons_zero]
    rw [if_neg (by omega), show ((2 * n5 - n5 : Nat) : Int) = (n5 : Int) by omega, Int.emod_eq_of_lt (by omega) (by omega)]
    omega
  have h8 := n5_ge
  have hf := file56
  show crashL [(n5 : Int) - 1] 0 1 [⟨sName.data.toList, fileL [b5, b6], n5⟩] = _
  unfold crashL
  rw [if_neg (fun h => by have h : (fileL [b5, b6]).length = n5 := h; omega)]
  unfold crash1
  simp only [hk, show n5 + (n5 - 1) = 2 * n5 - 1 by omega]
  rfl
/-- New, Open. -/
theorem sh_open {w0 w : World} {S : Nat → Prop} {a : Nat} (hD : DiskA w S a 1000 []) (hb : Below w0.heap.size w0 w) (hS : ∀ k, S k → w0.heap.size ≤ k) :
    Calls Try.prog 10 #[.pointer (some ⟨a, 0, none⟩), .string ⟨#[115]⟩, .int .i64 5] w fun e w' => ∃ q, e = .returned (.tuple #[.pointer (some ⟨q, 0, none⟩), .int .i64 0, .int .i64 0]) ∧ SO w0 w' (fun _ => False) q a 5 1000 [] 0 ∧ w.heap.size ≤ w'.heap.size := so_new 5 hD hb hS (by decide)
theorem sh_next0 {w0 w : World} {X : Nat → Prop} {q a safe} (h : SO w0 w X q a 5 1000 [] safe) : Calls Try.prog 12 #[.pointer (some ⟨q, 0, none⟩)] w fun e w' => e = .returned (.int .i64 5) ∧ w' = w := h.next
theorem sh_next1 {w0 w : World} {X : Nat → Prop} {q a safe} (h : SO w0 w X q a 5 1000 [b5] safe) : Calls Try.prog 12 #[.pointer (some ⟨q, 0, none⟩)] w fun e w' => e = .returned (.int .i64 6) ∧ w' = w := h.next
theorem sh_small (N : Nat) (w : World) (Z : Int) (hZ : Z = (N : Int)) : Calls Try.prog 11 #[.int .i64 Z, .int .i64 1] w fun e w' => ∃ rv, e = .returned (.agg #[.int .i64 Z, .int .i64 1, .int .i64 0, .int .i64 0, .int .i64 0, rv]) ∧ Recs w' rv (List.replicate 1 smallR) ∧ (∀ k, rv.ownBlock = some k → w.heap.size ≤ k) ∧ Below w.heap.size w w' := by
  subst hZ
  exact small_any w (N : Int) 1 (by decide)
theorem sh_app5 {w0 w : World} {X : Nat → Prop} {q a} (h : SO w0 w X q a 5 1000 [] 0) (rv : Value) (hr : Recs w rv (List.replicate 1 smallR)) :
    Calls Try.prog 14 #[.pointer (some ⟨q, 0, none⟩), .agg #[.int .i64 5, .int .i64 1, .int .i64 0, .int .i64 0, .int .i64 0, rv]] w fun e w' => e = .returned (.int .i64 0) ∧ SO w0 w' X q a 5 1000 [b5] 0 ∧ KX X w w' ∧ w.heap.size ≤ w'.heap.size :=
  h.append 5 rfl 1 (by decide) (by decide) (by decide) (by decide) rv hr (by have := n5_le; unfold n5 b5 at this; simp only [fileL, List.length_nil]; exact Nat.le_trans this (by decide))
theorem sh_ord {w0 w : World} {X : Nat → Prop} {q a safe} (h : SO w0 w X q a 5 1000 [b5] safe) (rv : Value) (hr : Recs w rv (List.replicate 1 smallR)) :
    Calls Try.prog 14 #[.pointer (some ⟨q, 0, none⟩), .agg #[.int .i64 5, .int .i64 1, .int .i64 0, .int .i64 0, .int .i64 0, rv]] w fun e w' => e = .returned (.int .i64 11) ∧ Below w.heap.size w w' :=
  h.order 5 (by show 5 ≠ 5 + 1; decide) 1 (by decide) (by decide) (by decide) rv hr
theorem sh_app6 {w0 w : World} {X : Nat → Prop} {q a} (h : SO w0 w X q a 5 1000 [b5] n5) (rv : Value) (hr : Recs w rv (List.replicate 1 smallR)) :
    Calls Try.prog 14 #[.pointer (some ⟨q, 0, none⟩), .agg #[.int .i64 6, .int .i64 1, .int .i64 0, .int .i64 0, .int .i64 0, rv]] w fun e w' => e = .returned (.int .i64 0) ∧ SO w0 w' X q a 5 1000 [b5, b6] n5 ∧ KX X w w' ∧ w.heap.size ≤ w'.heap.size :=
  h.append 6 rfl 1 (by decide) (by decide) (by show 6 + 1 ≤ 1000000000; decide) (by show 1 + 1 ≤ 4096; decide) rv hr (by rw [file5]; have h1 := n6_le; have h2 := n5_le; have h3 : (batchL (smallB (endM ⟨5, 0, 0⟩ [b5]).base 1)).1.length ≤ 100 := h1; omega)
theorem sh_safe0 {w0 w : World} {X : Nat → Prop} {q a} (h : SO w0 w X q a 5 1000 [b5] 0) : Calls Try.prog 17 #[.pointer (some ⟨q, 0, none⟩)] w fun e w' => e = .returned (.int .i64 5) ∧ Below w.heap.size w w' := h.safeNone
theorem sh_sync {w0 w : World} {X : Nat → Prop} {q a} (h : SO w0 w X q a 5 1000 [b5] 0) : Calls Try.prog 15 #[.pointer (some ⟨q, 0, none⟩)] w fun e w' => e = .returned (.int .i64 0) ∧ SO w0 w' X q a 5 1000 [b5] n5 ∧ KX X w w' ∧ w.heap.size ≤ w'.heap.size := by
  have := h.sync
  rw [file5] at this
  exact this
theorem sh_safe1 {w0 w : World} {X : Nat → Prop} {q a} (h : SO w0 w X q a 5 1000 [b5] n5) : Calls Try.prog 17 #[.pointer (some ⟨q, 0, none⟩)] w fun e w' => e = .returned (.int .i64 6) ∧ Below w.heap.size w w' := h.safeAll file5.symm
theorem sh_bytes1 {w0 w : World} {X : Nat → Prop} {q a} (h : SO w0 w X q a 5 1000 [b5] n5) : Calls Try.prog 25 #[.pointer (some ⟨q, 0, none⟩)] w fun e w' => e = .returned (.int .i64 (n5 : Int)) ∧ Below w.heap.size w w' := by
  have := h.bytes
  rw [file5] at this
  exact this
theorem sh_bytes2 {w0 w : World} {X : Nat → Prop} {q a} (h : SO w0 w X q a 5 1000 [b5, b6] n5) : Calls Try.prog 25 #[.pointer (some ⟨q, 0, none⟩)] w fun e w' => e = .returned (.int .i64 (2 * (n5 : Int))) ∧ Below w.heap.size w w' := by
  have := h.bytes
  rw [file56] at this
  simpa using this
theorem sh_crash {w0 w : World} {X : Nat → Prop} {q a} (h : SO w0 w X q a 5 1000 [b5, b6] n5) (g : Nat) (hg : w.cell? ⟨g, 0, none⟩ = some (.int .i64 ((n5 : Int) - 1))) (hX : X g) :
    Calls Try.prog 16 #[.pointer (some ⟨a, 0, none⟩), .slice (some ⟨g, 0, none⟩) 1 1] w fun e w' => e = .returned (.tuple #[]) ∧ DO w0 w' X a 1000 (one sName ((fileL [b5, b6]).take (2 * n5 - 1)) (2 * n5 - 1)) := by
  have h8 := n5_ge
  have h9 := n5_le
  refine (h.onDisk.crash (by rw [file56]; omega) (some ⟨g, 0, none⟩) [(n5 : Int) - 1] 1 (.inr ⟨g, 0, rfl, fun j hj => ?_⟩) (by unfold maxLen; decide) (fun _ b off e => ?_)).mono fun e w' ⟨e1, e2, _⟩ => ⟨e1, ?_⟩
  · have hj0 : j = 0 := by simp at hj; omega
    subst hj0
    exact ⟨hg, by simp; omega, by simp; omega⟩
  · cases e
    exact .inr hX
  · rw [crash56] at e2
    exact e2
theorem sh_again {w0 w : World} {X : Nat → Prop} {a} (h : DO w0 w X a 1000 (one sName ((fileL [b5, b6]).take (2 * n5 - 1)) (2 * n5 - 1))) (hF : Fits ⟨5, 0, 0⟩ [b5, b6]) :
    Calls Try.prog 10 #[.pointer (some ⟨a, 0, none⟩), .string ⟨#[115]⟩, .int .i64 5] w fun e w' => ∃ q, e = .returned (.tuple #[.pointer (some ⟨q, 0, none⟩), .int .i64 ((n5 : Int) - 1), .int .i64 0]) ∧ SO w0 w' X q a 5 1000 [b5] n5 := by
  have h8 := n5_ge
  obtain ⟨t, rest, t1, t2, t3, t4, t5, t6⟩ := cut_open [b5, b6] 5 (2 * n5 - 1) hF (by rw [file56]; omega)
  have ht : t = 1 := by
    rcases t4 with ⟨h1, h2⟩ | h1
    · subst h2
      rw [h1, List.take_length, file56] at t3
      simp at t3
      omega
    · match t, t1, t3, h1 with
      | 0, _, _, h1 =>
        have h1 : 2 * n5 - 1 < (fileL [b5]).length := h1
        rw [file5] at h1
        omega
      | 1, _, _, _ => rfl
      | 2, _, t3, _ =>
        have t3 : (fileL [b5, b6]).length + rest.length = 2 * n5 - 1 := t3
        rw [file56] at t3
        omega
  subst ht
  have h2 : (fileL [b5, b6]).take (2 * n5 - 1) = fileL [b5] ++ rest := t2
  have h3 : (fileL [b5]).length + rest.length = 2 * n5 - 1 := t3
  rw [h2] at h
  rw [file5] at h3
  refine (h.open 5 [b5] rest (by decide) t6 t5).mono fun e w' ⟨q, e1, e2, _⟩ => ⟨q, ?_, ?_⟩
  · rw [e1, show (rest.length : Int) = (n5 : Int) - 1 by omega]
  · rw [file5] at e2
    exact e2
theorem sh_read1 {w0 w : World} {X : Nat → Prop} {q a safe} (h : SO w0 w X q a 5 1000 [b5] safe) :
    Calls Try.prog 18 #[.pointer (some ⟨q, 0, none⟩), .int .i64 5, .int .i64 1] w fun e w' => ∃ o c, e = .returned (.slice o 1 c) ∧ Below w.heap.size w w' := by
  refine (h.read 5 1 (by decide) (by show (5 : Int) < 6; decide) (by decide)).mono fun e w' ⟨n, ps, rv, n1, n2, n3, e1, e2, e3, e4⟩ => ?_
  have hn : n = 0 := by simp at n1; exact n1
  subst hn
  obtain ⟨k, hk⟩ := takeB_first 1 ((endM ⟨5, 0, 0⟩ ([b5].take 0)).at_ : Int) b5 [] (endM ⟨5, 0, 0⟩ ([b5].take 0))
  have h5 : ([b5] : List Bat).drop 0 = [b5] := rfl
  rw [h5, hk] at e3
  have hl : ps.length = 1 := by have := congrArg List.length e3; simpa using this
  obtain ⟨o, c, rfl⟩ := e2.shape
  exact ⟨o, c, by rw [e1, hl], e4⟩
theorem sh_read0 {w0 w : World} {X : Nat → Prop} {q a safe} (h : SO w0 w X q a 5 1000 [b5] safe) :
    Calls Try.prog 18 #[.pointer (some ⟨q, 0, none⟩), .int .i64 6, .int .i64 100] w fun e w' => e = .returned (.slice none 0 0) ∧ Below w.heap.size w w' := h.readNo 6 100 (by show (6 : Int) ≤ 6; decide)
theorem sh_index {w0 w : World} {X : Nat → Prop} {q a safe} (h : SO w0 w X q a 5 1000 [b5] safe) :
    Calls Try.prog 23 #[.pointer (some ⟨q, 0, none⟩)] w fun e w' => ∃ o c, e = .returned (.slice o 1 c) ∧ Below w.heap.size w w' := by
  refine h.index.mono fun e w' ⟨rv, e1, e2, e3⟩ => ?_
  obtain ⟨o, c, rfl, _⟩ := ent_shape e2
  exact ⟨o, c, e1, e3⟩
end Go.Proofs.Ytlgaianlkbaedaa

