/- A log behind a world's end; pick, some. -/
import Derived.Test.YtclldpecbocclaaGreatK25
namespace Go.Proofs.YtclldpecbocclaaGreat
open Go.RowKit Go.Maps
set_option maxRecDepth 100000
set_option linter.unusedSimpArgs false
set_option linter.unusedVariables false

/-- A log behind a world's end, apart from blocks X of others. -/
def LF (w0 w : World) (X : Nat → Prop) (q a size : Nat) (s : LSt) : Prop :=
  ∃ B, LD w B q a size s ∧ LOk s ∧ (∀ k, B k → w0.heap.size ≤ k ∧ ¬ X k) ∧ Below w0.heap.size w0 w ∧ (∀ k, X k → k < w.heap.size)
/-- What a call leaves: the log, and blocks X as they were. -/
def LFA (w0 w w' : World) (X : Nat → Prop) (q a size : Nat) (s : LSt) : Prop := LF w0 w' X q a size s ∧ (∀ k, X k → w'.heap[k]? = w.heap[k]?) ∧ w.heap.size ≤ w'.heap.size
theorem LF.ok {w0 w : World} {X q a size s} (h : LF w0 w X q a size s) : LOk s := by obtain ⟨B, _, h, _⟩ := h; exact h
theorem LF.lb {w0 w : World} {X q a size s} (h : LF w0 w X q a size s) : LB s := by obtain ⟨B, h1, h2, _⟩ := h; exact h1.lb h2
theorem LF.below {w0 w : World} {X q a size s} (h : LF w0 w X q a size s) : Below w0.heap.size w0 w := by obtain ⟨B, _, _, _, h, _⟩ := h; exact h
theorem LF.under {w0 w w1 : World} {X q a size s} (h : LF w0 w X q a size s) (hb : Below w.heap.size w w1) : LF w0 w1 X q a size s := by
  obtain ⟨B, h1, h2, h3, h4, h5⟩ := h
  have hs := hb.size
  exact ⟨B, h1.under hb, h2, h3, h4.trans (hb.mono h4.size), fun k hk => by have := h5 k hk; omega⟩
/-- Other blocks beside it. -/
theorem LF.with {w0 w w1 : World} {X q a size s} (h : LF w0 w X q a size s) (hb : Below w.heap.size w w1) (Y : Nat → Prop) (hY : ∀ k, Y k → X k ∨ (w.heap.size ≤ k ∧ k < w1.heap.size)) : LF w0 w1 Y q a size s := by
  obtain ⟨B, h1, h2, h3, h4, h5⟩ := h
  have hs := hb.size
  refine ⟨B, h1.under hb, h2, fun k hk => ⟨(h3 k hk).1, fun hy => ?_⟩, h4.trans (hb.mono h4.size), fun k hk => ?_⟩
  · rcases hY k hy with h | h
    · exact (h3 k hk).2 h
    · have := h1.below k hk; omega
  · rcases hY k hk with h | h
    · have := h5 k h; omega
    · exact h.2
theorem LF.after {w0 w w' : World} {X B q a size s'} (h2 : LOk s') (h3 : ∀ k, B k → w0.heap.size ≤ k ∧ ¬ X k) (h4 : Below w0.heap.size w0 w) (h5 : ∀ k, X k → k < w.heap.size) (h : LDA B w w' q a size s') : LFA w0 w w' X q a size s' := by
  obtain ⟨B', g1, g2, g3, g4⟩ := h
  have hs := h4.size
  have hs4 := g4.size
  refine ⟨⟨B', g1, h2, fun k hk => ?_, h4.trans (g4.below hs (fun k hk => (h3 k hk).1)), fun k hk => by have := h5 k hk; omega⟩, fun k hk => g4.block k (h5 k hk) (fun hB => (h3 k hB).2 hk), hs4⟩
  rcases g2 k hk with h | h
  · exact h3 k h
  · exact ⟨by omega, fun hx => by have := h5 k hx; omega⟩
theorem turnE_ok {s : LSt} (hk : LOk s) (size : Nat) (term vote : Int) : LOk (turnE size s term vote).2 := by
  unfold turnE
  split
  · exact hk
  rename_i h1
  split
  · exact hk
  split
  · exact hk
  split
  · exact hk
  split
  · exact hk
  have b1 := (numB_iff term).1 (by cases hb : numB term; exact absurd (.inl hb) h1; rfl)
  have b2 := (numB_iff vote).1 (by cases hb : numB vote; exact absurd (.inr hb) h1; rfl)
  exact ⟨hk.idx, hk.rise, hk.rng, hk.srng, hk.hs, hk.hl, ⟨b1, b2⟩, (by intro h; cases h)⟩
theorem LF.turn {w0 w : World} {X q a size s} (h : LF w0 w X q a size s) (term vote : Int) : Calls Tryz.prog 13 #[.pointer (some ⟨q, 0, none⟩), .int .i64 term, .int .i64 vote] w fun e w' => e = .returned (.int .i64 ((turnE size s term vote).1 : Int)) ∧ LFA w0 w w' X q a size (turnE size s term vote).2 := by
  obtain ⟨B, h1, h2, h3, h4, h5⟩ := h
  exact (turn_any h1 h2 term vote).mono fun e w' ⟨e1, e2⟩ => ⟨e1, LF.after (turnE_ok h2 size term vote) h3 h4 h5 e2⟩
theorem LF.put {w0 w : World} {X q a size s} (h : LF w0 w X q a size s) {oa : Option Addr} {cap : Nat} {l : List Et} (hm : EAt w oa l) (hl : l.length ≤ 1000) (hc : l.length ≤ cap) (hcm : cap ≤ maxLen) (hX : 0 < l.length → ∀ ad, oa = some ad → X ad.block ∨ ad.block < w0.heap.size) (after : Int) :
    Calls Tryz.prog 11 #[.pointer (some ⟨q, 0, none⟩), .int .i64 after, .slice oa l.length cap] w fun e w' => e = .returned (.int .i64 ((putE (size - totalA s.fs) s after l).1 : Int)) ∧ LFA w0 w w' X q a size (putE (size - totalA s.fs) s after l).2 := by
  obtain ⟨B, h1, h2, h3, h4, h5⟩ := h
  refine (logput_any h1 h2 hm hl hc hcm (fun h0 ad had hB => ?_) after).mono fun e w' ⟨e1, e2⟩ => ⟨e1, LF.after (putE_ok h2 _ after l) h3 h4 h5 e2⟩
  rcases hX h0 ad had with h | h
  · exact (h3 _ hB).2 h
  · have := (h3 _ hB).1; omega
theorem LF.snap {w0 w : World} {X q a size s} (h : LF w0 w X q a size s) (index term : Int) (data : List UInt8) (hdl : data.length ≤ 9000000000000000000) : Calls Tryz.prog 15 #[.pointer (some ⟨q, 0, none⟩), .int .i64 index, .int .i64 term, .string (strOf data)] w fun e w' => e = .returned (.int .i64 ((snapE size s index term data).1 : Int)) ∧ LFA w0 w w' X q a size (snapE size s index term data).2 := by
  obtain ⟨B, h1, h2, h3, h4, h5⟩ := h
  exact (snap_any h1 h2 index term data hdl).mono fun e w' ⟨e1, e2⟩ => ⟨e1, LF.after (snapE_ok h2 size index term data) h3 h4 h5 e2⟩
theorem LF.m {w0 w : World} {X q a size s} (h : LF w0 w X q a size s) : ∃ U v, LogM w U q a v s := by
  obtain ⟨B, ⟨U, S, v, h1, _⟩, _⟩ := h
  exact ⟨U, v, h1⟩
theorem LF.last {w0 w : World} {X q a size s} (h : LF w0 w X q a size s) : Calls Tryz.prog 9 #[.pointer (some ⟨q, 0, none⟩)] w fun e w' => e = .returned (.tuple #[.int .i64 (lastE s).i, .int .i64 (lastE s).t]) ∧ Below w.heap.size w w' := by
  obtain ⟨U, v, hm⟩ := h.m
  exact last_any hm h.lb
theorem LF.at {w0 w : World} {X q a size s} (h : LF w0 w X q a size s) (idx : Int) : Calls Tryz.prog 14 #[.pointer (some ⟨q, 0, none⟩), .int .i64 idx] w fun e w' => e = .returned (.tuple #[evalue ((atE s idx).getD e0), .bool (atE s idx).isSome]) ∧ Below w.heap.size w w' := by
  obtain ⟨U, v, hm⟩ := h.m
  exact at_any hm h.lb idx
theorem LF.from {w0 w : World} {X q a size s} (h : LF w0 w X q a size s) (idx most : Int) : Calls Tryz.prog 19 #[.pointer (some ⟨q, 0, none⟩), .int .i64 idx, .int .i64 most] w fun e w' => ∃ v', e = .returned v' ∧ EL w' v' (fromE s idx most) ∧ (∀ k, v'.ownBlock = some k → w.heap.size ≤ k) ∧ Below w.heap.size w w' := by
  obtain ⟨U, v, hm⟩ := h.m
  exact from_any hm h.lb idx most
theorem LF.first {w0 w : World} {X q a size s} (h : LF w0 w X q a size s) : Calls Tryz.prog 20 #[.pointer (some ⟨q, 0, none⟩)] w fun e w' => e = .returned (.int .i64 (s.snap.i + 1)) ∧ w = w' := by
  obtain ⟨U, v, hm⟩ := h.m
  exact first_any hm h.lb
theorem LF.term {w0 w : World} {X q a size s} (h : LF w0 w X q a size s) : Calls Tryz.prog 7 #[.pointer (some ⟨q, 0, none⟩)] w fun e w' => e = .returned (.int .i64 s.term) ∧ w = w' := by
  obtain ⟨U, v, hm⟩ := h.m
  exact term_any hm
theorem LF.vote {w0 w : World} {X q a size s} (h : LF w0 w X q a size s) : Calls Tryz.prog 8 #[.pointer (some ⟨q, 0, none⟩)] w fun e w' => e = .returned (.int .i64 s.vote) ∧ w = w' := by
  obtain ⟨U, v, hm⟩ := h.m
  exact vote_any hm
theorem LF.snapshot {w0 w : World} {X q a size s} (h : LF w0 w X q a size s) : Calls Tryz.prog 17 #[.pointer (some ⟨q, 0, none⟩)] w fun e w' => e = .returned (.tuple #[.int .i64 s.snap.i, .int .i64 s.snap.t, .string (strOf s.snap.d)]) ∧ Below w.heap.size w w' := by
  obtain ⟨U, v, hm⟩ := h.m
  exact snapshot_any hm
theorem LF.new {w : World} {S a size} (hD : DiskA w S a size []) (w0 : World) (hb : Below w0.heap.size w0 w) (hS : ∀ k, S k → w0.heap.size ≤ k) :
    Calls Tryz.prog 6 #[.pointer (some ⟨a, 0, none⟩), .string ⟨#[114]⟩] w fun e w' => e = .returned (.tuple #[.pointer (some ⟨w.heap.size, 0, none⟩), .int .i64 0]) ∧ LF w0 w' (fun _ => False) w.heap.size a size s0 :=
  (open_empty hD).mono fun e w' ⟨e1, ⟨B, b1, b2, b3⟩, hk⟩ => by
    have hs := hb.size
    refine ⟨e1, B, b1, s0_ok, fun k hk2 => ⟨?_, fun h => h⟩, hb.trans (hk.below hs hS), fun k h => h.elim⟩
    rcases b2 k hk2 with h | h
    · exact hS k h
    · omega
set_option maxHeartbeats 400000 in
theorem pick_any (c n : Int) (w : World) (h1 : -9223372036854775808 ≤ c) (h2 : c ≤ 9223372036854775807) (hn : 1 ≤ n) (hn2 : n ≤ 3000000000) :
    Calls Tryz.prog 10 #[.int .i64 c, .int .i64 n] w fun e w' => e = .returned (.int .i64 (pickI c n)) ∧ w = w' := by
  by_cases hc : c < 0
  · go_enter Tryz.func10, Tryz.ntmps10
    go_wp2
    go_ret
    have e1 : -(c + 1).tmod n = (-(c + 1)).tmod n := (neg_tmod c n).symm
    have e2 : (-(c + 1)).tmod n = (-(c + 1)) % n := Int.tmod_eq_emod_of_nonneg (by omega)
    refine ⟨ret_int ?_, rfl⟩
    unfold pickI
    rw [if_pos hc, e1, e2]
  · go_enter Tryz.func10, Tryz.ntmps10
    go_wp2
    go_ret
    refine ⟨ret_int ?_, rfl⟩
    unfold pickI
    rw [if_neg (by omega)]
def someL (after : Int) (n : Nat) (term : Int) : List Et := (List.range n).map fun i : Nat => ⟨term, after + 1 + (i : Int), [100]⟩
theorem someL_succ (after : Int) (n : Nat) (term : Int) : someL after (n + 1) term = someL after n term ++ [⟨term, after + 1 + (n : Int), [100]⟩] := by
  unfold someL
  rw [List.range_succ, List.map_append]
  rfl
theorem someL_length (after : Int) (n : Nat) (term : Int) : (someL after n term).length = n := by simp [someL]
set_option maxHeartbeats 1600000 in
theorem some_any (after : Int) (n : Nat) (term : Int) (w : World) (hn : n ≤ 1000) (h0 : 0 ≤ after) (h1 : after ≤ 3000000000) :
    Calls Tryz.prog 12 #[.int .i64 after, .int .i64 (n : Int), .int .i64 term] w fun e w' => ∃ v', e = .returned v' ∧ EL w' v' (someL after n term) ∧ (∀ k, v'.ownBlock = some k → w.heap.size ≤ k) ∧ Below w.heap.size w w' := by
  obtain ⟨i0, hi0, hz0, hz1, hz2⟩ := info38
  go_enter Tryz.func12, Tryz.ntmps12
  go_wp2_with fail
  go_loopg [7, 8] n (fun kx s7 s8 wr => ∃ (k : Nat) (sv : Value), k ≤ n ∧ n - k ≤ kx ∧ s8 = .int .i64 ((k : Int) + 1) ∧ sv = s7 ∧ Hid (wr.ownsRow w.heap.size 37 3 sv k (flatT (someL after k term)) ∧ Below w.heap.size w wr))
  case atStart => exact ⟨0, _, by omega, by omega, rfl, rfl, ⟨rfl, .inl ⟨rfl, rfl⟩⟩, Below.refl _ _⟩
  case round =>
    obtain ⟨k, sv, hk, hkx, rfl, rfl, HI⟩ := hrel
    by_cases hlt : k < n
    · have hlt' : (k : Int) + 1 ≤ (n : Int) := by omega
      have hw : IntKind.i64.wrap (after + ((k : Int) + 1)) = after + ((k : Int) + 1) := IntWalk.i64_in _ ⟨by omega, by omega⟩
      have HF : Hid (flatT (someL after (k + 1) term) = flatT (someL after k term) ++ [.int .i64 term, .int .i64 (after + ((k : Int) + 1)), .string ⟨#[100]⟩]) := by
        show _ = _
        rw [someL_succ, flatT_append]
        have e : after + 1 + (k : Int) = after + ((k : Int) + 1) := by omega
        rw [e]
        rfl
      have hbw := HI.out.2.size
      have HR : Hid ((wr.alloc (.cells #[.int .i64 term, .int .i64 (after + ((k : Int) + 1)), .string ⟨#[100]⟩] 37)).ownsRow w.heap.size 37 3 sv k (flatT (someL after k term))) := by
        obtain ⟨g1, g2⟩ := HI.out.1
        rcases g2 with g2 | ⟨g, cap, cur, e, hB, hg, r⟩
        · exact ⟨g1, .inl g2⟩
        · exact ⟨g1, .inr ⟨g, cap, cur, e, hB, blk_alloc hg _, r⟩⟩
      have HNW : Hid (∀ j u, ([.int .i64 term, .int .i64 (after + ((k : Int) + 1)), .string ⟨#[100]⟩] : List Value)[j]? = some u → (wr.alloc (.cells #[.int .i64 term, .int .i64 (after + ((k : Int) + 1)), .string ⟨#[100]⟩] 37)).cell? ((⟨wr.heap.size, 0, none⟩ : Addr).add j) = some u) := fun j u hu => by
        rw [add_lit0]
        exact cell_at (heap_alloc_new wr _) (by simpa using hu)
      have HON : Hid (∀ u ∈ ([.int .i64 term, .int .i64 (after + ((k : Int) + 1)), .string ⟨#[100]⟩] : List Value), u.oneCell' = true) := by intro u hu; simp at hu; rcases hu with rfl | rfl | rfl <;> rfl
      have HGR : Hid (∀ w2, (wr.alloc (.cells #[.int .i64 term, .int .i64 (after + ((k : Int) + 1)), .string ⟨#[100]⟩] 37)).grownBy w2 sv.ownBlock → Below w.heap.size w w2) := fun w2 hg => (HI.out.2.alloc hbw _).grown hg (by simp; omega) (fun j hj => (World.ownsRow.lt HI.out.1 j hj).1)
      generalize flatT (someL after k term) = F at *
      go_wp2_with (at_builtin; refine wpList_append_own_at _ rfl _ _ 31 rfl w.heap.size 37 i0 _ 3 32 Tryz.underlying31 hi0 hz0 hz1 hz2 rfl (by decide) _ k F rfl HR.out ⟨wr.heap.size, 0, none⟩ 1 1 [.int .i64 term, .int .i64 (after + ((k : Int) + 1)), .string ⟨#[100]⟩] rfl rfl HNW.out HON.out (by unfold maxLen; omega) (by omega) (by simp; omega) ?_; intro v' w2 hown2 hg2 _ hat)
      go_roundg (n - (k + 1))
      case measure => omega
      case rel => exact ⟨k + 1, v', by omega, Nat.le_refl _, by go_num, rfl, by rw [HF.out]; exact hown2, HGR.out _ hg2⟩
    · have hlt' : ¬ (k : Int) + 1 ≤ (n : Int) := by omega
      have e : k = n := by omega
      subst e
      have hsh : ∃ o n c, sv = .slice o n c := by
        rcases HI.out.1.2 with ⟨e, _⟩ | ⟨g, cap', cur, e, _⟩
        · exact ⟨_, _, _, e⟩
        · exact ⟨_, _, _, e⟩
      obtain ⟨o, n, c, rfl⟩ := hsh
      go_wp2_with fail
      go_ret
      refine ⟨_, rfl, ?_, fun j hj => (World.ownsRow.lt HI.out.1 j hj).1, HI.out.2⟩
      unfold EL
      rw [someL_length]
      exact ownsRow_low HI.out.1
end Go.Proofs.YtclldpecbocclaaGreat

/- The chapter's examples, without memory. -/
namespace Go.Proofs.YtclldpecbocclaaGreat
open Go.RowKit Go.Maps
set_option maxRecDepth 100000
set_option linter.unusedSimpArgs false
set_option linter.unusedVariables false

def x1 : LSt := { s0 with term := 1, vote := 2, ht := true }
def x2 : LSt := { x1 with term := 2, vote := 0 }
def x3 : LSt := { x2 with list := [⟨1, 1, [100]⟩, ⟨1, 2, [100]⟩], hl := true }
def x4 : LSt := { x2 with list := [⟨1, 1, [100]⟩, ⟨2, 2, [100]⟩], hl := true }
def x5 : LSt := { x2 with list := [⟨1, 1, [100]⟩, ⟨2, 2, [100]⟩, ⟨2, 3, [100]⟩], hl := true }
def x6 : LSt := { x5 with snap := ⟨2, 2, [115]⟩, list := [⟨2, 3, [100]⟩], hs := true }
def x7 : LSt := { x6 with snap := ⟨5, 9, [116]⟩, list := [] }
theorem t1 : turnE 10000 s0 1 2 = (0, x1) := by kernel_rfl
theorem t2 : turnE 10000 x1 1 3 = (19, x1) := by kernel_rfl
theorem t3 : turnE 10000 x1 0 0 = (13, x1) := by kernel_rfl
theorem t4 : turnE 10000 x1 2 0 = (0, x2) := by kernel_rfl
theorem p1 : putE (10000 - totalA x2.fs) x2 0 (someL 0 2 1) = (0, x3) := by kernel_rfl
theorem p2 : putE (10000 - totalA x3.fs) x3 1 (someL 1 1 2) = (0, x4) := by kernel_rfl
theorem p3 : putE (10000 - totalA x4.fs) x4 1 (someL 1 2 2) = (0, x5) := by kernel_rfl
theorem p4 : putE (10000 - totalA x5.fs) x5 5 [] = (10, x5) := by kernel_rfl
theorem q1 : snapE 10000 x5 2 2 [115] = (0, x6) := by kernel_rfl
theorem q2 : snapE 10000 x6 9 5 [116] = (0, x7) := by kernel_rfl
theorem l4 : lastE x4 = ⟨2, 2, [100]⟩ := by kernel_rfl
theorem a4 : atE x4 2 = some ⟨2, 2, [100]⟩ := by kernel_rfl
theorem a6 : atE x6 2 = none := by kernel_rfl
theorem f5 : (fromE x5 2 9).length = 2 := by kernel_rfl
theorem f7 : (fromE x7 1 9).length = 0 := by kernel_rfl
end Go.Proofs.YtclldpecbocclaaGreat

/- The chapter's examples: shown. -/
namespace Go.Proofs.YtclldpecbocclaaGreat
open Go.RowKit Go.Maps
set_option maxRecDepth 100000
set_option linter.unusedSimpArgs false
set_option linter.unusedVariables false

abbrev NoB : Nat → Prop := fun _ => False
theorem LF.turn' {w0 w : World} {X q a size s} (h : LF w0 w X q a size s) (t v : Int) (c : Nat) (s' : LSt) (hT : turnE size s t v = (c, s')) : Calls Tryz.prog 13 #[.pointer (some ⟨q, 0, none⟩), .int .i64 t, .int .i64 v] w fun e w' => e = .returned (.int .i64 (c : Int)) ∧ LF w0 w' X q a size s' := by
  have := h.turn t v
  rw [hT] at this
  exact this.mono fun e w' ⟨e1, e2⟩ => ⟨e1, e2.1⟩
theorem LF.snap' {w0 w : World} {X q a size s} (h : LF w0 w X q a size s) (i t : Int) (d : List UInt8) (hd : d.length ≤ 1000) (c : Nat) (s' : LSt) (hT : snapE size s i t d = (c, s')) : Calls Tryz.prog 15 #[.pointer (some ⟨q, 0, none⟩), .int .i64 i, .int .i64 t, .string (strOf d)] w fun e w' => e = .returned (.int .i64 (c : Int)) ∧ LF w0 w' X q a size s' := by
  have := h.snap i t d (by omega)
  rw [hT] at this
  exact this.mono fun e w' ⟨e1, e2⟩ => ⟨e1, e2.1⟩
theorem LF.less {w0 w : World} {X q a size s} (h : LF w0 w X q a size s) : LF w0 w NoB q a size s := h.with (Below.refl _ _) NoB (fun k hk => hk.elim)
theorem LF.putRow {w0 w w1 : World} {X q a size s} (h : LF w0 w X q a size s) (hb : Below w.heap.size w w1) {v : Value} {l : List Et} (he : EL w1 v l) (ho : ∀ k, v.ownBlock = some k → w.heap.size ≤ k) (hl : l.length ≤ 1000) (after : Int) (c : Nat) (s' : LSt) (hP : putE (size - totalA s.fs) s after l = (c, s')) :
    Calls Tryz.prog 11 #[.pointer (some ⟨q, 0, none⟩), .int .i64 after, v] w1 fun e w' => e = .returned (.int .i64 (c : Int)) ∧ LF w0 w' NoB q a size s' := by
  have h1 := h.with hb (fun k => v.ownBlock = some k) (fun k hk => .inr ⟨ho k hk, he.lt k hk⟩)
  obtain ⟨oa, cap, rfl, hcap, hcm, _, _⟩ := he.shape
  have := h1.put he.at hl hcap hcm (fun _ ad had => .inl (by subst had; rfl)) after
  rw [hP] at this
  exact this.mono fun e w' ⟨e1, e2⟩ => ⟨e1, e2.1.less⟩
theorem LF.putNone {w0 w : World} {X q a size s} (h : LF w0 w X q a size s) (after : Int) (c : Nat) (s' : LSt) (hP : putE (size - totalA s.fs) s after [] = (c, s')) :
    Calls Tryz.prog 11 #[.pointer (some ⟨q, 0, none⟩), .int .i64 after, .slice none 0 0] w fun e w' => e = .returned (.int .i64 (c : Int)) ∧ LF w0 w' NoB q a size s' := by
  have := h.put (oa := none) (cap := 0) (l := []) (fun h0 => by simp at h0) (by simp) (by simp) (Nat.zero_le _) (by intro _ ad had; cases had) after
  rw [hP] at this
  exact this.mono fun e w' ⟨e1, e2⟩ => ⟨e1, e2.1.less⟩
set_option maxHeartbeats 6400000 in
theorem shown_any (w : World) : Calls Tryz.prog 4 #[] w fun e w' => e = .returned (.bool true) ∧ Below w.heap.size w w' := by
  have HN := hid (newA 10000 w (by omega) (by omega))
  go_enter Tryz.func4, Tryz.ntmps4
  go_wp2_with fail
  refine HN.out.mono ?_
  rintro e w1 ⟨rfl, hd1, hb1⟩
  have HO := hid (LF.new hd1 w hb1 (fun k hk => by omega))
  clear HN hb1 hd1
  go_wp2_with fail
  refine HO.out.mono ?_
  rintro e w2 ⟨rfl, h2⟩
  clear HO
  obtain ⟨q, hq⟩ : ∃ q, q = w1.heap.size := ⟨_, rfl⟩
  rw [← hq] at h2 ⊢
  clear hq
  obtain ⟨a, ha⟩ : ∃ a, a = w.heap.size := ⟨_, rfl⟩
  rw [← ha] at h2 ⊢
  have HA := hid ha
  clear ha
  have C2 := hid h2
  clear h2
  have R := hid (C2.out.turn' 1 2 _ _ t1)
  go_wp2_with fail
  refine R.out.mono ?_
  rintro e w3 ⟨rfl, h3⟩
  clear R
  have C3 := hid h3
  clear h3 C2
  have R := hid (C3.out.turn' 1 3 _ _ t2)
  go_wp2_with fail
  refine R.out.mono ?_
  rintro e w4 ⟨rfl, h4⟩
  clear R
  have C4 := hid h4
  clear h4 C3
  have R := hid (C4.out.turn' 0 0 _ _ t3)
  go_wp2_with fail
  refine R.out.mono ?_
  rintro e w5 ⟨rfl, h5⟩
  clear R
  have C5 := hid h5
  clear h5 C4
  have R := hid (C5.out.turn' 2 0 _ _ t4)
  go_wp2_with fail
  refine R.out.mono ?_
  rintro e w6 ⟨rfl, h6⟩
  clear R
  have C6 := hid h6
  clear h6 C5
  have R := hid ((show Calls Tryz.prog 7 #[.pointer (some ⟨q, 0, none⟩)] w6 fun e w' => e = .returned (.int .i64 2) ∧ w6 = w' from C6.out.term))
  go_wp2_with fail
  refine R.out.mono ?_
  rintro e w7 ⟨rfl, rfl⟩
  clear R
  have R := hid ((show Calls Tryz.prog 8 #[.pointer (some ⟨q, 0, none⟩)] w6 fun e w' => e = .returned (.int .i64 0) ∧ w6 = w' from C6.out.vote))
  go_wp2_with fail
  refine R.out.mono ?_
  rintro e w7 ⟨rfl, rfl⟩
  clear R
  have R := hid (some_any 0 2 1 w6 (by omega) (by omega) (by omega))
  go_wp2_with fail
  refine R.out.mono ?_
  rintro e w7 ⟨v, rfl, he, ho, hb⟩
  clear R
  have R2 := hid (C6.out.putRow hb he ho (by decide) 0 _ _ p1)
  obtain ⟨oa, cap, rfl, _⟩ := he.shape
  clear he ho hb
  go_wp2_with fail
  refine R2.out.mono ?_
  rintro e w8 ⟨rfl, h8⟩
  clear R2
  have C8 := hid h8
  clear h8 C6
  have R := hid (some_any 1 1 2 w8 (by omega) (by omega) (by omega))
  go_wp2_with fail
  refine R.out.mono ?_
  rintro e w9 ⟨v, rfl, he, ho, hb⟩
  clear R
  have R2 := hid (C8.out.putRow hb he ho (by decide) 1 _ _ p2)
  obtain ⟨oa, cap, rfl, _⟩ := he.shape
  clear he ho hb
  go_wp2_with fail
  refine R2.out.mono ?_
  rintro e w10 ⟨rfl, h10⟩
  clear R2
  have C10 := hid h10
  clear h10 C8
  have R := hid ((show Calls Tryz.prog 9 #[.pointer (some ⟨q, 0, none⟩)] w10 fun e w' => e = .returned (.tuple #[.int .i64 2, .int .i64 2]) ∧ Below w10.heap.size w10 w' from (by have := C10.out.last; rw [l4] at this; exact this)))
  go_wp2_with fail
  refine R.out.mono ?_
  rintro e w11 ⟨rfl, hb⟩
  clear R
  have C11 := hid (C10.out.under hb)
  clear hb C10
  have R := hid ((show Calls Tryz.prog 14 #[.pointer (some ⟨q, 0, none⟩), .int .i64 2] w11 fun e w' => e = .returned (.tuple #[.agg #[.int .i64 2, .int .i64 2, .string (strOf [100])], .bool true]) ∧ Below w11.heap.size w11 w' from (by have := C11.out.at 2; rw [a4] at this; exact this)))
  go_wp2_with fail
  refine R.out.mono ?_
  rintro e w12 ⟨rfl, hb⟩
  clear R
  have C12 := hid (C11.out.under hb)
  clear hb C11
  have CA := hid (C12.out.under ((Below.refl _ _).alloc (Nat.le_refl _) (.cells #[.int .i64 2, .int .i64 2, .string (strOf [100])] 37)))
  have R := hid (some_any 1 2 2 (w12.alloc (.cells #[.int .i64 2, .int .i64 2, .string (strOf [100])] 37)) (by omega) (by omega) (by omega))
  go_wp2_with fail
  refine R.out.mono ?_
  rintro e w13 ⟨v, rfl, he, ho, hb⟩
  clear R
  have R2 := hid (CA.out.putRow hb he ho (by decide) 1 _ _ p3)
  obtain ⟨oa, cap, rfl, _⟩ := he.shape
  clear he ho hb CA C12
  go_wp2_with fail
  refine R2.out.mono ?_
  rintro e w14 ⟨rfl, h14⟩
  clear R2
  have C14 := hid h14
  clear h14
  have R := hid (C14.out.putNone 5 _ _ p4)
  go_wp2_with fail
  refine R.out.mono ?_
  rintro e w15 ⟨rfl, h15⟩
  clear R
  have C15 := hid h15
  clear h15 C14
  have R := hid (C15.out.from 2 9)
  go_wp2_with fail
  refine R.out.mono ?_
  rintro e w16 ⟨v, rfl, he, ho, hb⟩
  clear R
  obtain ⟨oa, cap, hv, _⟩ := he.shape
  rw [f5] at hv
  subst hv
  have C16 := hid (C15.out.under hb)
  clear hb he ho C15
  have R := hid ((show Calls Tryz.prog 15 #[.pointer (some ⟨q, 0, none⟩), .int .i64 2, .int .i64 2, .string ⟨#[115]⟩] w16 fun e w' => e = .returned (.int .i64 ((0 : Nat) : Int)) ∧ LF w w' NoB q a 10000 x6 from C16.out.snap' 2 2 [115] (by decide) _ _ q1))
  go_wp2_with fail
  refine R.out.mono ?_
  rintro e w17 ⟨rfl, h17⟩
  clear R
  have C17 := hid h17
  clear h17 C16
  have R := hid ((show Calls Tryz.prog 20 #[.pointer (some ⟨q, 0, none⟩)] w17 fun e w' => e = .returned (.int .i64 3) ∧ w17 = w' from C17.out.first))
  go_wp2_with fail
  refine R.out.mono ?_
  rintro e w18 ⟨rfl, rfl⟩
  clear R
  have R := hid ((show Calls Tryz.prog 14 #[.pointer (some ⟨q, 0, none⟩), .int .i64 2] w17 fun e w' => e = .returned (.tuple #[.agg #[.int .i64 0, .int .i64 0, .string ⟨#[]⟩], .bool false]) ∧ Below w17.heap.size w17 w' from (by have := C17.out.at 2; rw [a6] at this; exact this)))
  go_wp2_with fail
  refine R.out.mono ?_
  rintro e w18 ⟨rfl, hb⟩
  clear R
  have C18 := hid (C17.out.under hb)
  clear hb C17
  have R := hid ((show Calls Tryz.prog 17 #[.pointer (some ⟨q, 0, none⟩)] w18 fun e w' => e = .returned (.tuple #[.int .i64 2, .int .i64 2, .string ⟨#[115]⟩]) ∧ Below w18.heap.size w18 w' from C18.out.snapshot))
  go_wp2_with fail
  refine R.out.mono ?_
  rintro e w19 ⟨rfl, hb⟩
  clear R
  have C19 := hid (C18.out.under hb)
  clear hb C18
  have R := hid ((show Calls Tryz.prog 15 #[.pointer (some ⟨q, 0, none⟩), .int .i64 9, .int .i64 5, .string ⟨#[116]⟩] w19 fun e w' => e = .returned (.int .i64 ((0 : Nat) : Int)) ∧ LF w w' NoB q a 10000 x7 from C19.out.snap' 9 5 [116] (by decide) _ _ q2))
  go_wp2_with fail
  refine R.out.mono ?_
  rintro e w20 ⟨rfl, h20⟩
  clear R
  have C20 := hid h20
  clear h20 C19
  have R := hid (C20.out.from 1 9)
  go_wp2_with fail
  refine R.out.mono ?_
  rintro e w21 ⟨v, rfl, he, ho, hb⟩
  clear R
  obtain ⟨oa, cap, hv, _⟩ := he.shape
  rw [f7] at hv
  subst hv
  have C21 := hid (C20.out.under hb)
  clear hb he ho C20
  go_wp2_with fail
  go_ret
  exact ⟨rfl, C21.out.below⟩
end Go.Proofs.YtclldpecbocclaaGreat

