/- What put of the document's disk does. -/
import Derived.Test.YtpdghpmfacaglaaDrop
namespace Go.Proofs.Ytpdghpmfacaglaa
open Go.RowKit Go.Maps Go.Sort
set_option maxRecDepth 100000
set_option linter.unusedSimpArgs false
set_option linter.unusedVariables false

theorem less_bef : ∀ (a b : List UInt8), Op.bytesLess a b = bytesBefore a b
  | [], [] => rfl
  | [], _ :: _ => rfl
  | _ :: _, [] => rfl
  | a :: r, b :: s => by simp only [Op.bytesLess, bytesBefore, less_bef r s]

/-- Where a name is put: behind those that are less. -/
def pos (n : List UInt8) : List AF → Nat
  | [] => 0
  | y :: r => if bytesBefore y.name n then pos n r + 1 else 0

theorem pos_le (n : List UInt8) : ∀ l : List AF, pos n l ≤ l.length
  | [] => Nat.le_refl _
  | y :: r => by have := pos_le n r; simp only [pos]; split <;> simp <;> omega

theorem pos_before (n : List UInt8) : ∀ (l : List AF) (j : Nat) (x : AF), j < pos n l → l[j]? = some x → bytesBefore x.name n = true
  | [], j, x, h, _ => by simp [pos] at h
  | y :: r, j, x, h, hx => by
    simp only [pos] at h
    split at h
    · cases j with
      | zero => simp at hx; subst hx; assumption
      | succ j => exact pos_before n r j x (by omega) (by simpa using hx)
    · omega

theorem pos_end (n : List UInt8) : ∀ (l : List AF) (x : AF), l[pos n l]? = some x → bytesBefore x.name n = false
  | [], x, h => by simp [pos] at h
  | y :: r, x, h => by
    simp only [pos] at h
    split at h
    · exact pos_end n r x (by simpa using h)
    · rename_i hnb; simp at h; subst h; exact Bool.eq_false_iff.2 hnb

theorem ains_pos (x : AF) : ∀ l : List AF, l.Pairwise (fun x y => bytesBefore x.name y.name = true) → (∀ y ∈ l, y.name ≠ x.name) → ains x l = l.take (pos x.name l) ++ x :: l.drop (pos x.name l)
  | [], _, _ => rfl
  | y :: r, hp, hn => by
    have hp' := List.pairwise_cons.1 hp
    have hny := hn y (by simp)
    by_cases hb : bytesBefore y.name x.name = true
    · have hxy := before_asymm hb
      simp only [ains, pos, hb, if_true, hxy, Bool.false_eq_true, if_false, List.take_succ_cons, List.drop_succ_cons, List.cons_append]
      rw [ains_pos x r hp'.2 (fun z hz => hn z (List.mem_cons_of_mem _ hz))]
    · have hxy : bytesBefore x.name y.name = true := by
        rcases WideAt.bytes_total x.name y.name (fun e => hny e.symm) with h | h
        · exact h
        · exact absurd h hb
      simp [ains, pos, hb, hxy]

/-- The loop that finds the place. -/
theorem pos_of {n : List UInt8} : ∀ {l : List AF} {k : Nat}, (∀ j x, j < k → l[j]? = some x → bytesBefore x.name n = true) → k ≤ l.length → (∀ x, l[k]? = some x → bytesBefore x.name n = false) → pos n l = k
  | [], k, _, hk, _ => by simp at hk; simp [pos, hk]
  | y :: r, 0, _, _, h => by have := h y rfl; simp [pos, this]
  | y :: r, k + 1, h, hk, he => by
    have h0 := h 0 y (by omega) rfl
    have := pos_of (l := r) (k := k) (fun j x hj hx => h (j + 1) x (by omega) (by simpa using hx)) (by simpa using hk) (fun x hx => he x (by simpa using hx))
    simp [pos, h0, this]

/-- The three appends of put, behind its loop: what each asks, what is left. -/
structure PutTail (w W0 wz : World) (T : Nat → Prop) (r size g cap k : Nat) (l : List AF) (x : AF) : Prop where
  box : ∀ W, Below W0.heap.size W0 W → W.cell? ⟨w.heap.size, 0, none⟩ = some (.string (strOf x.name)) ∧ W.cell? ⟨w.heap.size, 1, none⟩ = some (.string (strOf x.bs)) ∧ W.cell? ⟨w.heap.size, 2, none⟩ = some (.int .i64 (x.safe : Int)) ∧ W.cell? ⟨r, 1, none⟩ = some (.slice (some ⟨g, 0, none⟩) l.length cap) ∧ W.frozen? ⟨r, 1, none⟩ = false
  b0 : Below W0.heap.size W0 wz
  sz : wz.heap.size = W0.heap.size
  s0 : W0.heap.size = w.heap.size + 1
  b1 : ∀ w1, (wz.alloc (.cells #[] 62)).grownBy w1 (some wz.heap.size) → Below W0.heap.size W0 w1 ∧ wz.heap.size < w1.heap.size
  n1 : ∀ o, ∀ j u, (flat (l.take k))[j]? = some u → (wz.alloc o).cell? ((⟨g, 0, none⟩ : Addr).add j) = some u
  n2 : ∀ w1 : World, ∀ j u, (fcells x)[j]? = some u → (w1.alloc (.cells #[.string (strOf x.name), .string (strOf x.bs), .int .i64 (x.safe : Int)] 62)).cell? ((⟨w1.heap.size, 0, none⟩ : Addr).add j) = some u
  b2 : ∀ w1 w2 v1 xs n, Below W0.heap.size W0 w1 → wz.heap.size < w1.heap.size → w1.ownsRow wz.heap.size 62 3 v1 n xs → (w1.alloc (.cells #[.string (strOf x.name), .string (strOf x.bs), .int .i64 (x.safe : Int)] 62)).grownBy w2 v1.ownBlock → Below W0.heap.size W0 w2 ∧ wz.heap.size < w2.heap.size
  n3 : ∀ w2, Below W0.heap.size W0 w2 → ∀ j u, (flat (l.drop k))[j]? = some u → w2.cell? ((⟨g, k * 3, none⟩ : Addr).add j) = some u
  fin : ∀ w2 w3 v2 v3 xs n, Below W0.heap.size W0 w2 → wz.heap.size < w2.heap.size → w2.ownsRow wz.heap.size 62 3 v2 n xs → w2.grownBy w3 v2.ownBlock → w3.ownsRow wz.heap.size 62 3 v3 (l.take k ++ x :: l.drop k).length (flat (l.take k ++ x :: l.drop k)) → RAfter T w (w3.setCell ⟨r, 1, none⟩ v3) r size (l.take k ++ x :: l.drop k)
  b3 : ∀ w2 w3 v2 xs n, Below W0.heap.size W0 w2 → wz.heap.size < w2.heap.size → w2.ownsRow wz.heap.size 62 3 v2 n xs → w2.grownBy w3 v2.ownBlock → Below W0.heap.size W0 w3

theorem putTail {w W0 wz : World} {T : Nat → Prop} {r size g cap k : Nat} {l : List AF} {x : AF} (h : RefM w T r size (.slice (some ⟨g, 0, none⟩) l.length cap) l) (hW0 : W0 = w.alloc (.cells #[.string (strOf x.name), .string (strOf x.bs), .int .i64 (x.safe : Int)] 62)) (hz : Below W0.heap.size W0 wz) (hsz : wz.heap.size = W0.heap.size) : PutTail w W0 wz T r size g cap k l x := by
  have hB0 : Below w.heap.size w W0 := by rw [hW0]; exact (Below.refl _ _).alloc (Nat.le_refl _) _
  have hs0 : W0.heap.size = w.heap.size + 1 := by rw [hW0]; simp
  have hR : ∀ W, Below W0.heap.size W0 W → RefM W T r size (.slice (some ⟨g, 0, none⟩) l.length cap) l := fun W hW => h.under (hB0.trans (hW.mono (by omega)))
  have hadd : ∀ b o j, (⟨b, o, none⟩ : Addr).add j = ⟨b, o + j, none⟩ := fun b o j => by unfold Addr.add; split <;> simp_all
  have hb3 : ∀ (w2 w3 : World) (v2 : Value) (xs : List Value) (n : Nat), Below W0.heap.size W0 w2 → wz.heap.size < w2.heap.size → w2.ownsRow wz.heap.size 62 3 v2 n xs → w2.grownBy w3 v2.ownBlock → Below W0.heap.size W0 w3 := fun w2 w3 v2 xs n hb hs ho hg => hb.grown hg (by omega) (fun j hj => by have := (ho.lt j hj).1; omega)
  refine ⟨fun W hW => ?_, hz, hsz, hs0, fun w1 hg => ⟨(hz.alloc (by omega) _).grown hg (by simp; omega) (fun j hj => by cases hj; omega), by have := hg.size; simp at this; omega⟩, fun o => ?_, fun w1 j u hu => ?_, fun w1 w2 v1 xs n hb hs ho hg => ⟨(hb.alloc (by omega) _).grown hg (by simp; omega) (fun j hj => by have := (ho.lt j hj).1; omega), by have := hg.size; simp at this; omega⟩, fun w2 hb => ?_, fun w2 w3 v2 v3 xs n hb hs ho hg ho3 => ?_, hb3⟩
  · have e : W.heap[w.heap.size]? = some (.cells #[.string (strOf x.name), .string (strOf x.bs), .int .i64 (x.safe : Int)] 62) := (hW.block w.heap.size (by omega)).trans (by rw [hW0]; exact heap_alloc_new w _)
    exact ⟨by simp [World.cell?, e], by simp [World.cell?, e], by simp [World.cell?, e], (hR W hW).c1, (hR W hW).f1⟩
  · exact row_news (hR _ (hz.alloc (by omega) _)) 0 _ (fun j u hu => by
      rw [flat_take, List.getElem?_take] at hu
      split at hu
      · rw [Nat.zero_add]; exact hu
      · cases hu)
  · rw [hadd, Nat.zero_add]
    have e : (w1.alloc (.cells #[.string (strOf x.name), .string (strOf x.bs), .int .i64 (x.safe : Int)] 62)).heap[w1.heap.size]? = _ := heap_alloc_new w1 _
    simp only [World.cell?, e]
    simpa [fcells] using hu
  · exact row_news (hR _ hb) (k * 3) _ (fun j u hu => by rw [flat_drop, List.getElem?_drop] at hu; exact hu)
  · have hb' := hb3 w2 w3 v2 xs n hb hs ho hg
    have hbw : Below w.heap.size w w3 := hB0.trans (hb'.mono (by omega))
    refine RAfter.stored h (fun j hj => hbw.block j hj) ⟨hbw.os, hbw.tape, hbw.output⟩ hbw.size ⟨ho3.1, ?_⟩
    rcases ho3.2 with h0 | ⟨g3, cap3, cur, e, hb0, rest⟩
    · exact .inl h0
    · exact .inr ⟨g3, cap3, cur, e, by omega, rest⟩

theorem fcells_one (x : AF) : ∀ u ∈ fcells x, u.oneCell' = true := by
  intro u hu
  simp [fcells] at hu
  rcases hu with rfl | rfl | rfl <;> rfl

set_option maxHeartbeats 3200000 in
theorem rput_some {w : World} {T : Nat → Prop} {r size g cap : Nat} {l : List AF} (h : RefM w T r size (.slice (some ⟨g, 0, none⟩) l.length cap) l) (hl : l.length ≤ 1000) (hcap : l.length ≤ cap) (hcm : cap ≤ 9223372036854775807) (x : AF) :
    Calls Try.prog 50 #[.pointer (some ⟨r, 0, none⟩), .agg #[.string (strOf x.name), .string (strOf x.bs), .int .i64 (x.safe : Int)]] w fun e w' => e = .returned (.tuple #[]) ∧ RAfter T w w' r size (l.take (pos x.name l) ++ x :: l.drop (pos x.name l)) := by
  obtain ⟨i0, hi0, hz0, hz1, hz2⟩ := info_parts info62
  obtain ⟨W0, hW0⟩ : ∃ W0, W0 = w.alloc (.cells #[.string (strOf x.name), .string (strOf x.bs), .int .i64 (x.safe : Int)] 62) := ⟨_, rfl⟩
  have HT : Hid (∀ wz k, Below W0.heap.size W0 wz → wz.heap.size = W0.heap.size → PutTail w W0 wz T r size g cap k l x) := fun wz k hz hs => putTail h hW0 hz hs
  have HBox : Hid (∀ W, Below W0.heap.size W0 W → W.cell? ⟨w.heap.size, 0, none⟩ = some (.string (strOf x.name)) ∧ W.cell? ⟨r, 1, none⟩ = some (.slice (some ⟨g, 0, none⟩) l.length cap)) := fun W hW => by
    have := (putTail (k := 0) h hW0 (Below.refl _ _) rfl).box W hW
    exact ⟨this.1, this.2.2.2.1⟩
  have HStart : Hid (Below W0.heap.size W0 (w.alloc (.cells #[.string (strOf x.name), .string (strOf x.bs), .int .i64 (x.safe : Int)] 62)) ∧ (w.alloc (.cells #[.string (strOf x.name), .string (strOf x.bs), .int .i64 (x.safe : Int)] 62)).heap.size = W0.heap.size) := by rw [← hW0]; exact ⟨Below.refl _ _, rfl⟩
  have HRow : Hid (∀ W, Below W0.heap.size W0 W → ∀ k y, l[k]? = some y → W.cell? ⟨g, k * 3, none⟩ = some (.string (strOf y.name))) := fun W hW k y hy => ((h.under ((show Below w.heap.size w W0 by rw [hW0]; exact (Below.refl _ _).alloc (Nat.le_refl _) _).trans (hW.mono (by rw [hW0]; simp)))).at_ k y hy).1
  clear hW0 h
  go_enter Try.func50, Try.ntmps50
  go_wp2
  go_loopw [4] (fun i0 wr => ∃ k : Nat, k ≤ l.length ∧ i0 = .int .i64 (k : Int) ∧ Hid (Below W0.heap.size W0 wr ∧ wr.heap.size = W0.heap.size ∧ ∀ j y, j < k → l[j]? = some y → bytesBefore y.name x.name = true)) (fun i0 _ => l.length - (intOf i0).toNat)
  case atStart => exact ⟨0, Nat.zero_le _, rfl, HStart.out.1, HStart.out.2, fun j y hj => by omega⟩
  case round =>
    obtain ⟨k, hk, rfl, hI⟩ := hrel
    obtain ⟨b0, cr⟩ := HBox.out _ hI.out.1
    by_cases hgo : ∃ hlt : k < l.length, bytesBefore l[k].name x.name = true
    · obtain ⟨hlt, hb⟩ := hgo
      have hk' : (k : Int) < (l.length : Int) := by omega
      have hyk : l[k]? = some l[k] := List.getElem?_eq_getElem hlt
      have p0 := HRow.out _ hI.out.1 k _ hyk
      have t : Op.bytesLess (strOf l[k].name).toList (strOf x.name).toList = true := by rw [strOf_toL, strOf_toL, less_bef]; exact hb
      have HN : Hid (∀ j y, j < k + 1 → l[j]? = some y → bytesBefore y.name x.name = true) := fun j y hj hy => by
        by_cases e : j = k
        · subst e; rw [hyk] at hy; cases hy; exact hb
        · exact hI.out.2.2 j y (by omega) hy
      generalize l[k] = y at *
      clear hyk hb
      go_wp2_with fail
      go_quiet (fail)
      go_wp2_with fail
      go_roundw
      case rel => exact ⟨k + 1, by omega, by go_num, below_drewN hI.out.1 _, hI.out.2.1, HN.out⟩
      case measure => simp [intOf]; omega
    · have HPos : Hid (pos x.name l = k) := pos_of (fun j y hj hy => hI.out.2.2 j y hj hy) hk (fun y hy => by
        have hlt := (List.getElem?_eq_some_iff.1 hy).1
        cases hb : bytesBefore y.name x.name with
        | false => rfl
        | true =>
          exfalso
          refine hgo ⟨hlt, ?_⟩
          rw [List.getElem?_eq_getElem hlt] at hy
          rw [Option.some.inj hy]; exact hb)
      have HT2 : Hid (∀ nq, PutTail w W0 (wr.drewN nq) T r size g cap k l x) := fun nq => HT.out _ k (below_drewN hI.out.1 _) hI.out.2.1
      have hlt1 : (flat (l.take k)).length = k * 3 := by rw [flat_length, List.length_take]; congr 1; omega
      have hld : (flat (l.drop k)).length = (l.length - k) * 3 := by rw [flat_length, List.length_drop]
      have hkc : k ≤ cap := by omega
      by_cases hlt : k < l.length
      · have hk' : (k : Int) < (l.length : Int) := by omega
        have hyk : l[k]? = some l[k] := List.getElem?_eq_getElem hlt
        have p0 := HRow.out _ hI.out.1 k _ hyk
        have t : Op.bytesLess (strOf l[k].name).toList (strOf x.name).toList = false := by
          rw [strOf_toL, strOf_toL, less_bef]
          cases hb : bytesBefore l[k].name x.name with
          | false => rfl
          | true => exact absurd ⟨hlt, hb⟩ hgo
        generalize l[k] = y at *
        clear hyk hgo HT HBox HStart HRow
        have hcn : ¬ (cap - k = 0) := by omega
        go_wp2_with fail
        go_quiet (fail)
        have HP := hid (HT2.out nq)
        clear HT2
        have hca : ∀ o, ((wr.drewN nq).alloc o).cell? ⟨r, 1, none⟩ = some (.slice (some ⟨g, 0, none⟩) l.length cap) := fun o => (HP.out.box _ (HP.out.b0.alloc (by rw [HP.out.sz]; exact Nat.le_refl _) _)).2.2.2.1
        have hii : (k : Int) ≤ (l.length : Int) := by omega
        go_wp2_with (first | (at_builtin; refine wpList_append_own _ rfl _ _ 57 rfl (wr.drewN nq).heap.size 62 i0 _ 3 40 Try.underlying57 hi0 hz0 hz1 hz2 rfl (by decide) _ 0 [] rfl (World.ownsRow_made (wr.drewN nq) #[] 0 (Nat.le_refl _) (by decide) rfl) ⟨g, 0, none⟩ k cap (flat (l.take k)) rfl hlt1 (HP.out.n1 _) (flat_oneCell _) (by unfold maxLen; omega) (by omega) (by simp) ?_; intro v1 w1 hown1 hg1 hnil1; have hB1 := hid (HP.out.b1 w1 hg1); have hsz1 : wr.heap.size < w1.heap.size := hB1.out.2; obtain ⟨f0, f1, f2, cc1, ff1⟩ := HP.out.box w1 hB1.out.1) | (at_builtin; refine wpList_append_own _ rfl _ _ 57 rfl (wr.drewN nq).heap.size 62 i0 _ 3 40 Try.underlying57 hi0 hz0 hz1 hz2 rfl (by decide) v1 (0 + k) ([] ++ flat (l.take k)) rfl (hown1.alloc _) ⟨w1.heap.size, 0, none⟩ 1 1 (fcells x) rfl rfl (HP.out.n2 w1) (fcells_one x) (by unfold maxLen; omega) (by omega) (by simp; omega) ?_; intro v2 w2 hown2 hg2 hnil2; have hB2 := hid (HP.out.b2 w1 w2 v1 _ _ hB1.out.1 hB1.out.2 hown1 hg2); have hsz2 : wr.heap.size < w2.heap.size := hB2.out.2; obtain ⟨_, _, _, cc2, ff2⟩ := HP.out.box w2 hB2.out.1) | (at_builtin; refine wpList_append_own _ rfl _ _ 57 rfl (wr.drewN nq).heap.size 62 i0 _ 3 40 Try.underlying57 hi0 hz0 hz1 hz2 rfl (by decide) v2 (0 + k + 1) ([] ++ flat (l.take k) ++ fcells x) rfl hown2 ⟨g, k * 3, none⟩ (l.length - k) (cap - k) (flat (l.drop k)) rfl hld (HP.out.n3 w2 hB2.out.1) (flat_oneCell _) (by unfold maxLen; omega) (by omega) (by have := hB2.out.2; omega) ?_; intro v3 w3 hown3 hg3 hnil3; have hB3 := hid (HP.out.b3 w2 w3 v2 _ _ hB2.out.1 hB2.out.2 hown2 hg3); obtain ⟨_, _, _, cc3, ff3⟩ := HP.out.box w3 hB3.out; obtain ⟨oa3, ca3, hv3⟩ := row3_shape hown3; subst hv3))
        go_end0
        have hln : (l.take k ++ x :: l.drop k).length = k + 1 + (l.length - k) := by simp; omega
        have hfl : flat (l.take k ++ x :: l.drop k) = [] ++ flat (l.take k) ++ fcells x ++ flat (l.drop k) := by rw [flat_append]; simp [flat]
        simp only [Nat.zero_add] at hown3
        rw [HPos.out]
        exact ⟨rfl, HP.out.fin w2 w3 v2 _ _ _ hB2.out.1 hB2.out.2 hown2 hg3 (by rw [hln, hfl]; exact hown3)⟩
      · have hk' : ¬ ((k : Int) < (l.length : Int)) := by omega
        clear hgo HT HBox HStart HRow
        by_cases hcn : cap - k = 0
        · have hck : cap = k := by omega
          subst hck
          have hld0 : (flat (l.drop cap)).length = 0 * 3 := by rw [hld]; omega
          have hm0 : l.length - cap = 0 := by omega
          have HN3 : Hid (∀ w2 : World, ∀ j u, (flat (l.drop cap))[j]? = some u → w2.cell? ((⟨g, 0, none⟩ : Addr).add j) = some u) := fun w2 j u hu => by
            rw [List.drop_of_length_le (by omega)] at hu
            simp [flat] at hu
          go_wp2_with fail
          go_quiet (fail)
          have HP := hid (HT2.out nq)
          clear HT2
          have hca : ∀ o, ((wr.drewN nq).alloc o).cell? ⟨r, 1, none⟩ = some (.slice (some ⟨g, 0, none⟩) l.length cap) := fun o => (HP.out.box _ (HP.out.b0.alloc (by rw [HP.out.sz]; exact Nat.le_refl _) _)).2.2.2.1
          have hii : (cap : Int) ≤ (l.length : Int) := by omega
          go_wp2_with (first | (at_builtin; refine wpList_append_own _ rfl _ _ 57 rfl (wr.drewN nq).heap.size 62 i0 _ 3 40 Try.underlying57 hi0 hz0 hz1 hz2 rfl (by decide) _ 0 [] rfl (World.ownsRow_made (wr.drewN nq) #[] 0 (Nat.le_refl _) (by decide) rfl) ⟨g, 0, none⟩ cap cap (flat (l.take cap)) rfl hlt1 (HP.out.n1 _) (flat_oneCell _) (by unfold maxLen; omega) (by omega) (by simp) ?_; intro v1 w1 hown1 hg1 hnil1; have hB1 := hid (HP.out.b1 w1 hg1); have hsz1 : wr.heap.size < w1.heap.size := hB1.out.2; obtain ⟨f0, f1, f2, cc1, ff1⟩ := HP.out.box w1 hB1.out.1) | (at_builtin; refine wpList_append_own _ rfl _ _ 57 rfl (wr.drewN nq).heap.size 62 i0 _ 3 40 Try.underlying57 hi0 hz0 hz1 hz2 rfl (by decide) v1 (0 + cap) ([] ++ flat (l.take cap)) rfl (hown1.alloc _) ⟨w1.heap.size, 0, none⟩ 1 1 (fcells x) rfl rfl (HP.out.n2 w1) (fcells_one x) (by unfold maxLen; omega) (by omega) (by simp; omega) ?_; intro v2 w2 hown2 hg2 hnil2; have hB2 := hid (HP.out.b2 w1 w2 v1 _ _ hB1.out.1 hB1.out.2 hown1 hg2); have hsz2 : wr.heap.size < w2.heap.size := hB2.out.2; obtain ⟨_, _, _, cc2, ff2⟩ := HP.out.box w2 hB2.out.1) | (at_builtin; refine wpList_append_own _ rfl _ _ 57 rfl (wr.drewN nq).heap.size 62 i0 _ 3 40 Try.underlying57 hi0 hz0 hz1 hz2 rfl (by decide) v2 (0 + cap + 1) ([] ++ flat (l.take cap) ++ fcells x) rfl hown2 ⟨g, 0, none⟩ 0 0 (flat (l.drop cap)) rfl hld0 (HN3.out w2) (flat_oneCell _) (by unfold maxLen; omega) (by omega) (by have := hB2.out.2; omega) ?_; intro v3 w3 hown3 hg3 hnil3; have hB3 := hid (HP.out.b3 w2 w3 v2 _ _ hB2.out.1 hB2.out.2 hown2 hg3); obtain ⟨_, _, _, cc3, ff3⟩ := HP.out.box w3 hB3.out; obtain ⟨oa3, ca3, hv3⟩ := row3_shape hown3; subst hv3))
          go_end0
          have hln : (l.take cap ++ x :: l.drop cap).length = cap + 1 + (l.length - cap) := by simp; omega
          have hfl : flat (l.take cap ++ x :: l.drop cap) = [] ++ flat (l.take cap) ++ fcells x ++ flat (l.drop cap) := by rw [flat_append]; simp [flat]
          simp only [Nat.zero_add, Nat.add_zero] at hown3
          rw [hm0] at hln
          rw [HPos.out]
          exact ⟨rfl, HP.out.fin w2 w3 v2 _ _ _ hB2.out.1 hB2.out.2 hown2 hg3 (by rw [hln, hfl]; exact hown3)⟩
        · go_wp2_with fail
          go_quiet (fail)
          have HP := hid (HT2.out nq)
          clear HT2
          have hca : ∀ o, ((wr.drewN nq).alloc o).cell? ⟨r, 1, none⟩ = some (.slice (some ⟨g, 0, none⟩) l.length cap) := fun o => (HP.out.box _ (HP.out.b0.alloc (by rw [HP.out.sz]; exact Nat.le_refl _) _)).2.2.2.1
          have hii : (k : Int) ≤ (l.length : Int) := by omega
          go_wp2_with (first | (at_builtin; refine wpList_append_own _ rfl _ _ 57 rfl (wr.drewN nq).heap.size 62 i0 _ 3 40 Try.underlying57 hi0 hz0 hz1 hz2 rfl (by decide) _ 0 [] rfl (World.ownsRow_made (wr.drewN nq) #[] 0 (Nat.le_refl _) (by decide) rfl) ⟨g, 0, none⟩ k cap (flat (l.take k)) rfl hlt1 (HP.out.n1 _) (flat_oneCell _) (by unfold maxLen; omega) (by omega) (by simp) ?_; intro v1 w1 hown1 hg1 hnil1; have hB1 := hid (HP.out.b1 w1 hg1); have hsz1 : wr.heap.size < w1.heap.size := hB1.out.2; obtain ⟨f0, f1, f2, cc1, ff1⟩ := HP.out.box w1 hB1.out.1) | (at_builtin; refine wpList_append_own _ rfl _ _ 57 rfl (wr.drewN nq).heap.size 62 i0 _ 3 40 Try.underlying57 hi0 hz0 hz1 hz2 rfl (by decide) v1 (0 + k) ([] ++ flat (l.take k)) rfl (hown1.alloc _) ⟨w1.heap.size, 0, none⟩ 1 1 (fcells x) rfl rfl (HP.out.n2 w1) (fcells_one x) (by unfold maxLen; omega) (by omega) (by simp; omega) ?_; intro v2 w2 hown2 hg2 hnil2; have hB2 := hid (HP.out.b2 w1 w2 v1 _ _ hB1.out.1 hB1.out.2 hown1 hg2); have hsz2 : wr.heap.size < w2.heap.size := hB2.out.2; obtain ⟨_, _, _, cc2, ff2⟩ := HP.out.box w2 hB2.out.1) | (at_builtin; refine wpList_append_own _ rfl _ _ 57 rfl (wr.drewN nq).heap.size 62 i0 _ 3 40 Try.underlying57 hi0 hz0 hz1 hz2 rfl (by decide) v2 (0 + k + 1) ([] ++ flat (l.take k) ++ fcells x) rfl hown2 ⟨g, k * 3, none⟩ (l.length - k) (cap - k) (flat (l.drop k)) rfl hld (HP.out.n3 w2 hB2.out.1) (flat_oneCell _) (by unfold maxLen; omega) (by omega) (by have := hB2.out.2; omega) ?_; intro v3 w3 hown3 hg3 hnil3; have hB3 := hid (HP.out.b3 w2 w3 v2 _ _ hB2.out.1 hB2.out.2 hown2 hg3); obtain ⟨_, _, _, cc3, ff3⟩ := HP.out.box w3 hB3.out; obtain ⟨oa3, ca3, hv3⟩ := row3_shape hown3; subst hv3))
          go_end0
          have hln : (l.take k ++ x :: l.drop k).length = k + 1 + (l.length - k) := by simp; omega
          have hfl : flat (l.take k ++ x :: l.drop k) = [] ++ flat (l.take k) ++ fcells x ++ flat (l.drop k) := by rw [flat_append]; simp [flat]
          simp only [Nat.zero_add] at hown3
          rw [HPos.out]
          exact ⟨rfl, HP.out.fin w2 w3 v2 _ _ _ hB2.out.1 hB2.out.2 hown2 hg3 (by rw [hln, hfl]; exact hown3)⟩
end Go.Proofs.Ytpdghpmfacaglaa
