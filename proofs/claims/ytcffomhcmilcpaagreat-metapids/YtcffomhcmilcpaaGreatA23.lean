/- Each new producer has an id of its own, its epochs rise. -/
import Derived.Test.YtcffomhcmilcpaaGreatA22
namespace Go.Proofs.YtcffomhcmilcpaaGreat
open Go.RowKit Go.Maps
set_option maxRecDepth 100000
set_option linter.unusedSimpArgs false
set_option linter.unusedVariables false

def pidIm (n : Nat) (E : List Int) : Im := ⟨(n : Int), [], [], [], E⟩
def pr (id : Int) : Rc := ⟨8, id, 0, 0, 0, ⟨#[]⟩, ⟨#[]⟩, []⟩
theorem next_pid (n : Nat) (E : List Int) : nextI (pidIm n E) = pidIm (n + 1) E := by simp [nextI, pidIm]
theorem do_pid (I : Im) (id : Int) : doI I (pr id) = pidI I (pr id) := rfl
theorem pid0 (n : Nat) (E : List Int) (h : E.length < 1000) : applyI (pidIm n E) (pr 0) = (pidIm (n + 1) (E ++ [0]), (E.length : Int) + 1, 0) := by
  unfold applyI
  rw [next_pid, do_pid]
  unfold pidI
  rw [if_neg (by simp [pr]), if_neg (by simp [pr, pidIm]), if_pos (show (pr 0).a = 0 from rfl), if_neg (by simp only [pidIm]; omega)]
  rfl
theorem pid1 (n : Nat) (E : List Int) (id : Int) (h : (E.length : Int) < id) : applyI (pidIm n E) (pr id) = (pidIm (n + 1) E, 0, 8) := by
  unfold applyI
  rw [next_pid, do_pid]
  unfold pidI
  rw [if_neg (by simp only [pr]; omega), if_pos (by simp only [pr, pidIm]; exact h)]
theorem pid2 (n : Nat) (E : List Int) (j : Nat) (h : j < E.length) (he : E[j] < 1000000000) : applyI (pidIm n E) (pr ((j : Int) + 1)) = (pidIm (n + 1) (E.set j (E[j] + 1)), E[j] + 1, 0) := by
  unfold applyI
  rw [next_pid, do_pid]
  have hj : ((j : Int) + 1).toNat - 1 = j := by omega
  have hg : (E[((j : Int) + 1).toNat - 1]?).getD 0 = E[j] := by rw [hj]; simp [h]
  have k1 : ¬ (pr ((j : Int) + 1)).a < 0 := by show ¬ ((j : Int) + 1 < 0); omega
  have k2 : ¬ ((pidIm (n + 1) E).eps.length : Int) < (pr ((j : Int) + 1)).a := by show ¬ ((E.length : Int) < (j : Int) + 1); omega
  have k3 : ¬ (pr ((j : Int) + 1)).a = 0 := by show ¬ ((j : Int) + 1 = 0); omega
  have k4 : ((pidIm (n + 1) E).eps[(pr ((j : Int) + 1)).a.toNat - 1]?).getD 0 = E[j] := hg
  have k5 : (pr ((j : Int) + 1)).a.toNat - 1 = j := hj
  unfold pidI
  rw [if_neg k1, if_neg k2, if_neg k3, k4, k5, if_neg (by omega)]
  rfl
@[reducible] def prV (id : Int) : Value := .agg #[.int .i64 8, .int .i64 id, .int .i64 0, .int .i64 0, .int .i64 0, .string ⟨#[]⟩, .string ⟨#[]⟩, .slice none 0 0]
theorem pr_ok (W : World) (id : Int) (h : I64 id) : RecM W (prV id) (pr id) :=
  ⟨⟨_, rfl, IL.nil _⟩, ⟨small _ (by simp [pr]), h, small _ (by simp [pr]), small _ (by simp [pr]), small _ (by simp [pr])⟩, by show (0 : Nat) ≤ maxLen; exact Nat.zero_le _⟩
/-- The image, and the law's own row of epochs. -/
structure PS (w W : World) (q n : Nat) (v : Value) (E : List Int) : Prop where
  im : IS w W q (pidIm n E) (fun k => v.ownBlock = some k)
  row : W.ownsRow w.heap.size 3 1 v E.length (vals E)
  len : E.length ≤ n
  le : ∀ x ∈ E, 0 ≤ x ∧ x ≤ (n : Int)
theorem PS.lt {w W : World} {q n : Nat} {v : Value} {E : List Int} (h : PS w W q n v E) : ∀ k, (fun k => v.ownBlock = some k) k → k < W.heap.size := fun k hk => (World.ownsRow.lt h.row k hk).2
theorem row_keptB {w w1 : World} {B e s : Nat} {v : Value} {n : Nat} {xs : List Value} (h : w.ownsRow B e s v n xs) (hb : ∀ k, v.ownBlock = some k → w1.heap[k]? = w.heap[k]?) : w1.ownsRow B e s v n xs := by
  obtain ⟨h1, h2⟩ := h
  rcases h2 with h2 | ⟨g, cap, cur, rfl, hB, hg, r⟩
  · exact ⟨h1, .inl h2⟩
  · exact ⟨h1, .inr ⟨g, cap, cur, rfl, hB, (hb g rfl).trans hg, r⟩⟩
theorem PS.call {w W : World} {q n : Nat} {v : Value} {E : List Int} (h : PS w W q n v E) (hn : n < 1000) (id : Int) (hid : I64 id) {a b : Int} {J : Im} (hres : applyI (pidIm n E) (pr id) = (J, a, b)) :
    Calls Tryz.prog 12 #[.pointer (some ⟨q, 0, none⟩), prV id] W fun e w' => e = .returned (.tuple #[.int .i64 a, .int .i64 b]) ∧ ISOut w W w' q J (fun k => v.ownBlock = some k) :=
  h.im.do h.lt (by show (n : Int) < 1000000000000; omega) (pr_ok W id hid) rfl (by simp [pr]) hres
theorem PS.out {w W W1 : World} {q n : Nat} {v : Value} {E E2 : List Int} (h : PS w W q n v E) (ho : ISOut w W W1 q (pidIm (n + 1) E2) (fun k => v.ownBlock = some k)) : IS w W1 q (pidIm (n + 1) E2) (fun k => v.ownBlock = some k) ∧ W1.ownsRow w.heap.size 3 1 v E.length (vals E) :=
  ⟨ho.1, row_keptB h.row (fun k hk => ho.2.1 k hk)⟩
/-- One number more. -/
theorem PS.push {w W w2 : World} {q n : Nat} {v : Value} {E : List Int} (h : IS w W q (pidIm (n + 1) (E ++ [0])) (fun k => v.ownBlock = some k)) (hl : E.length ≤ n) (hle : ∀ x ∈ E, 0 ≤ x ∧ x ≤ (n : Int)) {g c : Nat}
    (hown : w2.ownsRow w.heap.size 3 1 (.slice (some ⟨g, 0, none⟩) (E.length + 1) c) (E.length + 1) (vals E ++ [.int .i64 0])) (hg : (W.alloc (.cells #[.int .i64 0] 3)).grownBy w2 v.ownBlock) (hat : v.ownBlock = some g ∨ g = W.heap.size + 1) (hv : ∀ k, v.ownBlock = some k → w.heap.size ≤ k) :
    PS w w2 q (n + 1) (.slice (some ⟨g, 0, none⟩) (E.length + 1) c) (E ++ [0]) := by
  have hb : Below W.heap.size W (W.alloc (.cells #[.int .i64 0] 3)) := (Below.refl _ _).alloc (Nat.le_refl _) _
  have h1 : IS w W q (pidIm (n + 1) (E ++ [0])) (fun k => v.ownBlock = some k ∨ W.heap.size ≤ k) := h.more (fun k hk => hk)
  have h2 := h1.under hb
  have hk : Keeps (fun k => v.ownBlock = some k ∨ W.heap.size ≤ k) (W.alloc (.cells #[.int .i64 0] 3)) w2 := Keeps.of_grown hg (fun k e => .inl e)
  have hB : Below w.heap.size w w2 := h2.below.grown hg h2.below.size hv
  refine ⟨(h2.beside hk hB).more (fun k hk => .inl ?_), ?_, by simp; omega, fun x hx => ?_⟩
  · have := own_some hk
    subst this
    rcases hat with e | e
    · exact .inl e
    · exact .inr (by rw [e]; exact Nat.le_succ _)
  · rw [List.length_append]
    simpa [vals] using hown
  · rcases List.mem_append.1 hx with hx | hx
    · have := hle x hx; push_cast; omega
    · simp at hx; subst hx; exact ⟨Int.le_refl _, by omega⟩
/-- One number is another. -/
theorem PS.turn {w W : World} {q n : Nat} {g len c : Nat} {E : List Int} (j : Nat) (hj : j < E.length) (h : IS w W q (pidIm (n + 1) (E.set j (E[j] + 1))) (fun k => (Value.slice (some ⟨g, 0, none⟩) len c).ownBlock = some k)) (hrow : W.ownsRow w.heap.size 3 1 (.slice (some ⟨g, 0, none⟩) len c) E.length (vals E)) (hl : E.length ≤ n) (hle : ∀ x ∈ E, 0 ≤ x ∧ x ≤ (n : Int)) :
    PS w (W.setCell ⟨g, j, none⟩ (.int .i64 (E[j] + 1))) q (n + 1) (.slice (some ⟨g, 0, none⟩) len c) (E.set j (E[j] + 1)) := by
  have hgw := (World.ownsRow.lt hrow g rfl).1
  refine ⟨h.beside (Keeps.set (S := fun k => (Value.slice (some ⟨g, 0, none⟩) len c).ownBlock = some k) W (a := ⟨g, j, none⟩) rfl _) (h.below.setCell hgw _), ?_, by simp; omega, fun x hx => ?_⟩
  · obtain ⟨h1, ⟨e, h0⟩ | ⟨g', cap', cur, e, hB, hg, hn, hc, hs, ht⟩⟩ := hrow
    · cases e
    · cases e
      refine ⟨by simp [vals], .inr ⟨g, c, cur.setIfInBounds j (.int .i64 (E[j] + 1)), by simp, hB, set_box hg, by simpa using hn, hc, by simpa using hs, ?_⟩⟩
      have e2 : vals (E.set j (E[j] + 1)) = (vals E).set j (.int .i64 (E[j] + 1)) := by simp [vals, List.map_set]
      rw [e2, ← ht, List.length_set]
      simp only [Nat.mul_one, Array.toList_setIfInBounds]
      rw [List.take_set]
  · rcases List.mem_or_eq_of_mem_set hx with hx | rfl
    · have := hle x hx; push_cast; omega
    · have := hle E[j] (by simp); push_cast; omega
set_option maxHeartbeats 20000000 in
theorem pids_walk {w : World} {wv : Value} {ws : List Int} (h : IL w wv ws) : Calls Tryz.prog 7 #[wv] w fun e w' => e = .returned (.bool true) ∧ Below w.heap.size w w' := by
  obtain ⟨i0, hi0, hz0, hz1, hz2⟩ := info3
  obtain ⟨⟨a, cap, rfl, hcap, hcm, hnn, hat⟩, hok, hfew⟩ := h
  have HA := hid hat
  have HOK := hid hok
  have HSH := hid (shown_any w)
  have HNW := hid (fun V => new_any V)
  have hlen : ws.length ≤ 9223372036854775807 := by omega
  clear hat hok hnn hcap hcm
  go_enter Tryz.func7, Tryz.ntmps7
  go_wp2_with fail
  refine HSH.out.mono ?_
  rintro e W0 ⟨rfl, hb0⟩
  have HB0 := hid hb0
  clear hb0 HSH
  go_wp2_with fail
  refine (HNW.out W0).mono ?_
  rintro e W1 ⟨rfl, hi1, hb1⟩
  have HP0 : Hid (PS w W1 (W0.heap.size + 1) 0 (.slice none 0 0) []) := ⟨IS.new w HB0.out (fun k hk => by cases hk) hi1 hb1, World.ownsRow_nil _ _ _ _, by simp, fun x hx => by cases hx⟩
  clear hi1 hb1 HB0 HNW
  generalize W0.heap.size + 1 = q at *
  go_wp2_with fail
  go_loopg [5, 6] 200 (fun kx s5 s6 wr => ∃ (n : Nat) (E : List Int) (oa : Option Addr) (c : Nat), n ≤ 200 ∧ 200 - n ≤ kx ∧ s5 = .slice oa E.length c ∧ s6 = .int .i64 (n : Int) ∧ E.length ≤ n ∧ Hid (PS w wr q n (.slice oa E.length c) E))
  case atStart => exact ⟨0, [], none, 0, by omega, by omega, rfl, rfl, by simp, HP0.out⟩
  case round =>
    obtain ⟨n, E, oa, c, hn, hkx, rfl, rfl, hEn, HP⟩ := hrel
    clear HP0
    by_cases hlt : n < ws.length ∧ n < 200
    · obtain ⟨hl1, hl2⟩ := hlt
      have hl1' : (n : Int) < (ws.length : Int) := by omega
      have hl2' : (n : Int) < 200 := by omega
      obtain ⟨b, off, rfl, hb, hc⟩ := HA.out (by intro e; rw [e] at hl1; simp at hl1)
      have hck := kept_cell HP.out.im.below (hc n hl1)
      have hcw := HOK.out ws[n] (by simp)
      obtain ⟨id, hidd⟩ : ∃ id, id = pickI ws[n] ((E.length : Int) + 2) := ⟨_, rfl⟩
      have HPK := hid (pick_any ws[n] ((E.length : Int) + 2) wr hcw (by omega) (by omega))
      have hrg := pickI_range ws[n] ((E.length : Int) + 2) (by omega)
      rw [← hidd] at HPK hrg
      obtain ⟨hr1, hr2⟩ := hrg
      generalize ws[n] = cw at *
      clear hc hidd hcw
      have hw2 : IntKind.i64.wrap ((E.length : Int) + 2) = (E.length : Int) + 2 := IntWalk.i64_in _ ⟨by omega, by omega⟩
      by_cases hi0' : id = 0
      · subst hi0'
        have HC : Hid (∀ W, Below wr.heap.size wr W → wr = W → Calls Tryz.prog 12 #[.pointer (some ⟨q, 0, none⟩), prV 0] W fun e w' => e = .returned (.tuple #[.int .i64 ((E.length : Int) + 1), .int .i64 0]) ∧ ISOut w W w' q (pidIm (n + 1) (E ++ [0])) (fun k => (Value.slice oa E.length c).ownBlock = some k)) := fun W _ e => by subst e; exact HP.out.call (by omega) 0 (small _ (by omega)) (pid0 n E (by omega))
        go_wp2_with fail
        refine HPK.out.mono ?_
        rintro e w1 ⟨rfl, rfl⟩
        go_wp2_with fail
        refine (HC.out _ (Below.refl _ _) rfl).mono ?_
        rintro e w2 ⟨rfl, ho⟩
        obtain ⟨o1, o2⟩ := HP.out.out ho
        have HO1 := hid o1
        have HX : Hid ((w2.alloc (.cells #[.int .i64 0] 3)).ownsRow w.heap.size 3 1 (.slice oa E.length c) E.length (vals E)) := o2.alloc _
        have HN1 : Hid (∀ j u, ([.int .i64 0] : List Value)[j]? = some u → (w2.alloc (.cells #[.int .i64 0] 3)).cell? ((⟨w2.heap.size, 0, none⟩ : Addr).add j) = some u) := fun j u hu => by
          cases j with
          | zero => simp at hu; subst hu; rw [add_at]; exact cell_blk (heap_alloc_new _ _) 0 _ rfl
          | succ j => simp at hu
        have HO2 : Hid (∀ u ∈ ([.int .i64 0] : List Value), u.oneCell' = true) := fun u hu => by simp at hu; subst hu; rfl
        have HWZ : Hid ((w2.alloc (.cells #[.int .i64 0] 3)).heap.size = w2.heap.size + 1) := by show _ = _; simp
        have HLE := hid HP.out.le
        have HLN := hid HP.out.len
        have hbs := o1.below.size
        clear ho o1 o2 HC HPK HP hck
        go_wp2_with (at_builtin; go_loud (refine wpList_append_lies _ rfl _ _ 23 rfl w.heap.size 3 i0 _ 1 8 Tryz.underlying23 hi0 hz0 hz1 hz2 rfl (by decide) _ E.length _ rfl HX.out ⟨w2.heap.size, 0, none⟩ 1 1 [.int .i64 0] rfl rfl HN1.out HO2.out (by decide) (by unfold maxLen; omega) (by omega) (by simp; omega) (w2.heap.size + 1) HWZ.out ?_); intro g c2 w3 hown3 hg3 hat3 _; have HPS := hid (PS.push HO1.out HLN.out HLE.out hown3 hg3 hat3 (fun k hk => (World.ownsRow.lt HX.out k hk).1)); clear hown3 hg3 hat3)
        go_roundg (200 - (n + 1))
        case measure => omega
        case rel => exact ⟨n + 1, E ++ [0], some ⟨g, 0, none⟩, c2, by omega, Nat.le_refl _, by simp, by go_num, by simp; omega, by rw [List.length_append]; exact HPS.out⟩
      · by_cases hi1' : (E.length : Int) < id
        · have HC : Hid (Calls Tryz.prog 12 #[.pointer (some ⟨q, 0, none⟩), prV id] wr fun e w' => e = .returned (.tuple #[.int .i64 0, .int .i64 8]) ∧ ISOut w wr w' q (pidIm (n + 1) E) (fun k => (Value.slice oa E.length c).ownBlock = some k)) := HP.out.call (by omega) id (by unfold I64; omega) (pid1 n E id hi1')
          have hi0'' : (id == 0) = false := by simp [hi0']
          go_wp2_with fail
          refine HPK.out.mono ?_
          rintro e w1 ⟨rfl, rfl⟩
          go_wp2_with fail
          refine HC.out.mono ?_
          rintro e w2 ⟨rfl, ho⟩
          obtain ⟨o1, o2⟩ := HP.out.out ho
          have HPS : Hid (PS w w2 q (n + 1) (.slice oa E.length c) E) := ⟨o1, o2, by have := HP.out.len; omega, fun x hx => by have := HP.out.le x hx; push_cast; omega⟩
          clear ho o1 o2 HC HPK HP hck
          go_wp2_with fail
          go_roundg (200 - (n + 1))
          case measure => omega
          case rel => exact ⟨n + 1, E, oa, c, by omega, Nat.le_refl _, rfl, by go_num, by omega, HPS.out⟩
        · obtain ⟨j, hj⟩ : ∃ j : Nat, id = (j : Int) + 1 := ⟨id.toNat - 1, by omega⟩
          have hjl : j < E.length := by omega
          have hle := HP.out.le E[j] (by simp)
          obtain ⟨oa', c', hsl, _, _, _, hoat⟩ := row_shape (row_base HP.out.row (Nat.zero_le _))
          simp only [Value.slice.injEq] at hsl
          obtain ⟨rfl, _, rfl⟩ := hsl
          obtain ⟨g, rfl⟩ := hoat (by omega)
          have HC : Hid (Calls Tryz.prog 12 #[.pointer (some ⟨q, 0, none⟩), prV ((j : Int) + 1)] wr fun e w' => e = .returned (.tuple #[.int .i64 (E[j] + 1), .int .i64 0]) ∧ ISOut w wr w' q (pidIm (n + 1) (E.set j (E[j] + 1))) (fun k => (Value.slice (some ⟨g, 0, none⟩) E.length c).ownBlock = some k)) := HP.out.call (by omega) _ (by unfold I64; omega) (pid2 n E j hjl (by omega))
          rw [← hj] at HC
          have HJ := hid hj
          have hi0'' : (id == 0) = false := by simp [hi0']
          have hjw : IntKind.i64.wrap (id - 1) = (j : Int) := by rw [show id - 1 = (j : Int) by omega]; exact IntWalk.i64_in _ ⟨by omega, by omega⟩
          have hjl' : (j : Int) < (E.length : Int) := by omega
          have HTU : Hid (∀ w2, ISOut w wr w2 q (pidIm (n + 1) (E.set j (E[j] + 1))) (fun k => (Value.slice (some ⟨g, 0, none⟩) E.length c).ownBlock = some k) → w2.cell? ⟨g, j, none⟩ = some (.int .i64 E[j]) ∧ w2.frozen? ⟨g, j, none⟩ = false ∧ PS w (w2.setCell ⟨g, j, none⟩ (.int .i64 (E[j] + 1))) q (n + 1) (.slice (some ⟨g, 0, none⟩) E.length c) (E.set j (E[j] + 1))) := fun w2 ho => by
            obtain ⟨o1, o2⟩ := HP.out.out ho
            have hcc := World.ownsRow.cells o2 (g := g) rfl j (.int .i64 E[j]) (by simp [vals, hjl])
            rw [add_at, Nat.zero_add] at hcc
            obtain ⟨cur, hcur⟩ := row_blk (row_base o2 (Nat.zero_le _)) (k := g) rfl
            exact ⟨hcc, frz_blk hcur j, PS.turn j hjl o1 o2 HP.out.len HP.out.le⟩
          have HSL : Hid ((E.set j (E[j] + 1)).length = E.length) := by show _ = _; simp
          obtain ⟨F, hF⟩ : ∃ F, F = E.set j (E[j] + 1) := ⟨_, rfl⟩
          rw [← hF] at HC HTU HSL
          generalize E[j] = y at *
          have hyw : IntKind.i64.wrap (y + 1) = y + 1 := IntWalk.i64_in _ ⟨by omega, by omega⟩
          clear hj hF
          go_wp2_with fail
          refine HPK.out.mono ?_
          rintro e w1 ⟨rfl, rfl⟩
          go_wp2_with fail
          refine HC.out.mono ?_
          rintro e w2 ⟨rfl, ho⟩
          obtain ⟨t1, t2, t3⟩ := HTU.out w2 ho
          have HPS := hid t3
          clear ho t3 HC HPK HP hck HTU
          go_wp2_with fail
          go_roundg (200 - (n + 1))
          case measure => omega
          case rel => exact ⟨n + 1, F, some ⟨g, 0, none⟩, c, by omega, Nat.le_refl _, by rw [HSL.out], by go_num, by rw [HSL.out]; omega, by rw [HSL.out]; exact HPS.out⟩
    · have HB := hid HP.out.im.below
      by_cases h1 : n < ws.length
      · have h2 : ¬ (n : Int) < 200 := fun hh => hlt ⟨h1, by omega⟩
        have h1' : (n : Int) < (ws.length : Int) := by omega
        clear hlt
        go_wp2_with fail
        go_ret
        exact ⟨rfl, HB.out⟩
      · have h1' : ¬ (n : Int) < (ws.length : Int) := by omega
        clear hlt
        go_wp2_with fail
        go_ret
        exact ⟨rfl, HB.out⟩
end Go.Proofs.YtcffomhcmilcpaaGreat
