/- What the document's disk does: put on any row, drop. -/
import Derived.Test.YtjggdecjnnpjaaaGreatH16
import Derived.Laws.AppendOwnNone
import Derived.Deep.CutRange
import Derived.Deep.DeepCutAuto
namespace Go.Proofs.YtjggdecjnnpjaaaGreat
open Go.RowKit Go.Maps Go.Sort
set_option maxRecDepth 100000
set_option linter.unusedSimpArgs false
set_option linter.unusedVariables false

set_option maxHeartbeats 1600000 in
theorem rput_nil {w : World} {T : Nat → Prop} {r size : Nat} (h : RefM w T r size (.slice none 0 0) []) (x : AF) :
    Calls Tryz.prog 73 #[.pointer (some ⟨r, 0, none⟩), .agg #[.string (strOf x.name), .string (strOf x.bs), .int .i64 (x.safe : Int)]] w fun e w' => e = .returned (.tuple #[]) ∧ RAfter T w w' r size [x] := by
  obtain ⟨i0, hi0, hz0, hz1, hz2⟩ := info_parts info62
  have hrl := h.below r h.self
  have H0 := hid h
  have c1 := h.c1
  have hne : ¬ r = w.heap.size := by omega
  have HC : Hid (∀ w1 : World, (∀ k, k < w.heap.size → w1.heap[k]? = w.heap[k]?) → w1.cell? ⟨r, 1, none⟩ = some (.slice none 0 0) ∧ w1.frozen? ⟨r, 1, none⟩ = false) := fun w1 hk =>
    ⟨(World.cell?_of_block (a := ⟨r, 1, none⟩) (hk r hrl)).trans c1, (World.frozen?_of_block (a := ⟨r, 1, none⟩) (hk r hrl)).trans h.f1⟩
  clear h
  have hb0 : Below w.heap.size w (w.alloc (.cells #[.string (strOf x.name), .string (strOf x.bs), .int .i64 (x.safe : Int)] 88)) := (Below.refl _ _).alloc (Nat.le_refl _) _
  have HB : Hid (∀ k, Below w.heap.size w ((w.alloc (.cells #[.string (strOf x.name), .string (strOf x.bs), .int .i64 (x.safe : Int)] 88)).drewN k)) := fun k => below_drewN hb0 k
  have HBox : Hid (∀ k, ((w.alloc (.cells #[.string (strOf x.name), .string (strOf x.bs), .int .i64 (x.safe : Int)] 88)).drewN k).heap[w.heap.size]? = some (.cells #[.string (strOf x.name), .string (strOf x.bs), .int .i64 (x.safe : Int)] 88)) := fun k => heap_alloc_new w _
  have HSz : Hid (∀ k, ((w.alloc (.cells #[.string (strOf x.name), .string (strOf x.bs), .int .i64 (x.safe : Int)] 88)).drewN k).heap.size = w.heap.size + 1) := fun k => by show (w.heap.push _).size = _; simp
  clear hb0
  go_enter Tryz.func73, Tryz.ntmps73
  go_wp2
  refine wp_loop_rounds 1 ?_
  rw [rounds_succ]
  go_wp2_with fail
  go_quiet (fail)
  generalize hW1 : (w.alloc (.cells #[.string (strOf x.name), .string (strOf x.bs), .int .i64 (x.safe : Int)] 88)).drewN nq = W1 at *
  have HB1 := hid (HB.out nq)
  have HX1 := hid (HBox.out nq)
  have HS1 := hid (HSz.out nq)
  rw [hW1] at HB1 HX1 HS1
  clear hW1 HB HBox HSz
  have hs1 : w.heap.size < W1.heap.size := by have := HS1.out; omega
  have hca : ∀ o, (W1.alloc o).cell? ⟨r, 1, none⟩ = some (.slice none 0 0) := fun o => (HC.out _ (fun k hk => (Below.heap_alloc W1 o k (by omega)).trans (HB1.out.block k hk))).1
  have hb0 : ∀ o, (W1.alloc o).cell? ⟨w.heap.size, 0, none⟩ = some (.string (strOf x.name)) := fun o => by simp [World.cell?, Below.heap_alloc W1 o w.heap.size hs1, HX1.out]
  have hb1 : ∀ o, (W1.alloc o).cell? ⟨w.heap.size, 1, none⟩ = some (.string (strOf x.bs)) := fun o => by simp [World.cell?, Below.heap_alloc W1 o w.heap.size hs1, HX1.out]
  have hb2 : ∀ o, (W1.alloc o).cell? ⟨w.heap.size, 2, none⟩ = some (.int .i64 (x.safe : Int)) := fun o => by simp [World.cell?, Below.heap_alloc W1 o w.heap.size hs1, HX1.out]
  have HN : Hid (∀ j u, (fcells x)[j]? = some u → ((W1.alloc (.cells #[] 88)).alloc (.cells #[.string (strOf x.name), .string (strOf x.bs), .int .i64 (x.safe : Int)] 88)).cell? ((⟨W1.heap.size + 1, 0, none⟩ : Addr).add j) = some u) := fun j u hu => by
    have hadd : (⟨W1.heap.size + 1, 0, none⟩ : Addr).add j = ⟨W1.heap.size + 1, j, none⟩ := by unfold Addr.add; split <;> simp_all
    rw [hadd]
    have e : ((W1.alloc (.cells #[] 88)).alloc (.cells #[.string (strOf x.name), .string (strOf x.bs), .int .i64 (x.safe : Int)] 88)).heap[W1.heap.size + 1]? = some (.cells #[.string (strOf x.name), .string (strOf x.bs), .int .i64 (x.safe : Int)] 88) := by
      have := heap_alloc_new (W1.alloc (.cells #[] 88)) (.cells #[.string (strOf x.name), .string (strOf x.bs), .int .i64 (x.safe : Int)] 88)
      simpa using this
    simp only [World.cell?, e]
    simpa [fcells] using hu
  have HE : Hid (∀ w2 v2, w2.ownsRow W1.heap.size 88 3 v2 (0 + 1) ([] ++ fcells x) → ((W1.alloc (.cells #[] 88)).alloc (.cells #[.string (strOf x.name), .string (strOf x.bs), .int .i64 (x.safe : Int)] 88)).grownBy w2 (some W1.heap.size) → (∀ k, k < w.heap.size → w2.heap[k]? = w.heap[k]?) ∧ RAfter T w (w2.setCell ⟨r, 1, none⟩ v2) r size [x]) := fun w2 v2 ho hg => by
    have hk : ∀ k, k < w.heap.size → w2.heap[k]? = w.heap[k]? := fun k hk => by
      rw [hg.block k (by simp; omega) (by simp; omega), Below.heap_alloc _ _ k (by simp; omega), Below.heap_alloc _ _ k (by omega)]
      exact HB1.out.block k hk
    have hsz := hg.size
    simp at hsz
    refine ⟨hk, RAfter.stored H0.out hk ⟨hg.os.trans HB1.out.os, hg.tape.trans HB1.out.tape, hg.output.trans HB1.out.output⟩ (by omega) ⟨by simpa [flat] using ho.1, ?_⟩⟩
    rcases ho.2 with h0 | ⟨g3, cap3, cur, e, hb0, rest⟩
    · simp at h0
    · exact .inr ⟨g3, cap3, cur, by simpa using e, by omega, by simpa [flat] using rest⟩
  go_wp2_with (first
    | (at_builtin; refine wpList_append_own_none rfl _ _ 56 rfl W1.heap.size 88 i0 3 Tryz.underlying56 hi0 _ 0 [] rfl (World.ownsRow_made W1 #[] 0 (Nat.le_refl _) (by decide) rfl) rfl ?_)
    | (at_builtin; refine wpList_append_own _ rfl _ _ 56 rfl W1.heap.size 88 i0 _ 3 40 Tryz.underlying56 hi0 hz0 hz1 hz2 rfl (by decide) _ 0 [] rfl ((World.ownsRow_made W1 #[] 0 (Nat.le_refl _) (by decide) rfl).alloc _) ⟨W1.heap.size + 1, 0, none⟩ 1 1 (fcells x) rfl rfl HN.out (fcells_one x) (by unfold maxLen; omega) (by omega) (by simp; omega) ?_; intro v2 w2 hown2 hg2 hnil2; have HE2 := hid (HE.out w2 v2 hown2 hg2); obtain ⟨cc2, ff2⟩ := HC.out w2 HE2.out.1)
    | (at_builtin; refine wpList_append_own_none rfl _ _ 56 rfl W1.heap.size 88 i0 3 Tryz.underlying56 hi0 v2 (0 + 1) ([] ++ fcells x) rfl hown2 rfl ?_; obtain ⟨oa3, ca3, hv3⟩ := row3_shape hown2; subst hv3)
    | fail)
  go_end0
  exact ⟨rfl, HE2.out.2⟩

theorem rput_any {w : World} {T : Nat → Prop} {r size : Nat} {v : Value} {l : List AF} (h : RefM w T r size v l) (hl : l.length ≤ 1000) (x : AF) :
    Calls Tryz.prog 73 #[.pointer (some ⟨r, 0, none⟩), .agg #[.string (strOf x.name), .string (strOf x.bs), .int .i64 (x.safe : Int)]] w fun e w' => e = .returned (.tuple #[]) ∧ RAfter T w w' r size (l.take (pos x.name l) ++ x :: l.drop (pos x.name l)) := by
  rcases h.row.2 with ⟨e, h0⟩ | ⟨g, cap, cur, e, hb, hg, hn, hc, hs, ht⟩
  · have hl0 : l = [] := List.eq_nil_of_length_eq_zero h0
    subst hl0
    subst e
    exact rput_nil h x
  · subst e
    exact rput_some h hl hn (by unfold maxLen at hc; exact hc) x
theorem rdrop_any {w : World} {T : Nat → Prop} {r size : Nat} {v : Value} {l : List AF} (h : RefM w T r size v l) (hl : l.length ≤ 1000) (hs : Srt l) {i : Nat} {x : AF} (hx : l[i]? = some x) :
    Calls Tryz.prog 72 #[.pointer (some ⟨r, 0, none⟩), .int .i64 (i : Int)] w fun e w' => e = .returned (.tuple #[]) ∧ RAfter T w w' r size (adel l x.name) := by
  obtain ⟨g, cap, rfl, hcap, hcm⟩ := h.place hx
  rw [adel_at hs hx]
  exact drop_walk h hl hcap (by unfold maxLen at hcm; exact hcm) i (List.getElem?_eq_some_iff.1 hx).1
/-- put of a name that is not there. -/
theorem rput_new {w : World} {T : Nat → Prop} {r size : Nat} {v : Value} {l : List AF} (h : RefM w T r size v l) (hl : l.length ≤ 1000) (hs : Srt l) (x : AF) (hn : ∀ y ∈ l, y.name ≠ x.name) :
    Calls Tryz.prog 73 #[.pointer (some ⟨r, 0, none⟩), .agg #[.string (strOf x.name), .string (strOf x.bs), .int .i64 (x.safe : Int)]] w fun e w' => e = .returned (.tuple #[]) ∧ RAfter T w w' r size (aput l x) := by
  rw [aput_no hs hn]
  exact rput_any h hl x
end Go.Proofs.YtjggdecjnnpjaaaGreat

/- What the document's disk does: Append. -/
namespace Go.Proofs.YtjggdecjnnpjaaaGreat
open Go.RowKit Go.Maps Go.Sort
set_option maxRecDepth 100000
set_option linter.unusedSimpArgs false
set_option linter.unusedVariables false

theorem strOf_app (l m : List UInt8) : strOf l ++ strOf m = strOf (l ++ m) := by
  apply ByteArray.ext
  simp [strOf]
theorem strOf_of (b : ByteArray) : strOf b.data.toList = b := by simp [strOf]
theorem strOf_sz (l : List UInt8) : (strOf l).size = l.length := by simp [strOf, ByteArray.size]
/-- What follows the first n parts. -/
def tailAt : Nat → Code → Code
  | 0, c => c
  | n + 1, .seq _ b => tailAt n b
  | _ + 1, c => c

end Go.Proofs.YtjggdecjnnpjaaaGreat

/- What the document's disk does: Replace, Rename. -/
namespace Go.Proofs.YtjggdecjnnpjaaaGreat
open Go.RowKit Go.Maps Go.Sort
set_option maxRecDepth 100000
set_option linter.unusedSimpArgs false
set_option linter.unusedVariables false

theorem aput_adel (l : List AF) (y : AF) : aput (adel l y.name) y = aput l y := by
  unfold aput
  rw [adel_all (adel_ne l y.name)]
/-- put behind a drop of the same name. -/
theorem rput_over {w : World} {T : Nat → Prop} {r size : Nat} {v : Value} {l : List AF} {x : AF} (h : RefM w T r size v (adel l x.name)) (hl : l.length ≤ 256) (hs : Srt l) :
    Calls Tryz.prog 73 #[.pointer (some ⟨r, 0, none⟩), .agg #[.string (strOf x.name), .string (strOf x.bs), .int .i64 (x.safe : Int)]] w fun e w' => e = .returned (.tuple #[]) ∧ RAfter T w w' r size (aput l x) := by
  rw [← aput_adel]
  exact rput_new h (by have := adel_len l x.name; omega) (srt_adel _ hs) x (adel_ne l x.name)

set_option maxHeartbeats 3200000 in
theorem rreplace_any {w : World} {T : Nat → Prop} {r size : Nat} {v : Value} {l : List AF} (h : RefM w T r size v l) (hk : LOk size l) (n b : ByteArray) (hn : n.size ≤ maxLen) (hb : b.size ≤ maxLen) :
    Calls Tryz.prog 55 #[.pointer (some ⟨r, 0, none⟩), .string n, .string b] w fun e w' => e = .returned (.int .i64 (repE size l n b : Int)) ∧ RAfter T w w' r size (repL size l n b) := by
  have hl := hk.len
  have HM := hid (rmade_any h hk.len n hn)
  have HA := hid (at_any h (by omega) n)
  have HF := hid (rfree_any h (by omega) hk.total hk.big)
  have HR := hid (RAfter.same h (Below.refl _ _))
  unfold maxLen at hb
  unfold repE repL
  by_cases hE : admE l n = 0
  case neg =>
    rw [if_neg hE, if_neg (fun h => hE h.1)]
    generalize admE l n = E at *
    have hne : (((E : Nat) : Int) != 0) = true := by simp; omega
    clear h hE HA HF
    go_enter Tryz.func55, Tryz.ntmps55
    go_wp2_with fail
    refine HM.out.mono ?_
    rintro e w1 ⟨rfl, h⟩
    have h' := h.symm
    subst h'
    go_wp2_with fail
    go_ret
    exact ⟨rfl, HR.out⟩
  simp only [hE, if_true, true_and]
  rw [hE] at HM
  have htot := hk.total
  have hbig := hk.big
  cases hi : idx l n.data.toList with
  | some i =>
    rw [idxI_yes hi] at HA
    obtain ⟨x, hx, hxn, hlk, hil⟩ := idx_yes hi
    rw [(look_bytes hlk).1]
    have hxt := total_mem (mem_at hx)
    obtain ⟨g, cap, rfl, hcap, hcm⟩ := h.place hx
    have c1 := h.c1
    have p1 := (h.at_ i x hx).2.1
    have hsz := strOf_sz x.bs
    have hi0 : (0 : Int) ≤ (i : Int) := by omega
    have hil' : (i : Int) < (l.length : Int) := by omega
    have HD := hid (rdrop_any h (by omega) hk.srt hx)
    rw [hxn] at HD
    have HO := hid (fun (w1 : World) (T1 : Nat → Prop) (v1 : Value) (h1 : RefM w1 T1 r size v1 (adel l n.data.toList)) => rput_over (x := ⟨n.data.toList, b.data.toList, b.size⟩) h1 hl hk.srt)
    simp only [strOf_of] at HO
    have hfr : size - totalA l ≤ 16777216 := by omega
    have hxl : x.bs.length ≤ 16777216 := by omega
    by_cases hf : b.size ≤ size - totalA l + x.bs.length
    · rw [if_pos hf, if_pos hf]
      have hf' : ¬ ((size - totalA l : Nat) : Int) + (x.bs.length : Int) < (b.size : Int) := by omega
      generalize x.bs.length = xl at *
      generalize size - totalA l = fr at *
      generalize strOf x.bs = S0 at *
      clear h hlk hi hx hxn hE hk hf
      go_enter Tryz.func55, Tryz.ntmps55
      go_wp2_with fail
      refine HM.out.mono ?_
      rintro e w1 ⟨rfl, h⟩
      have h' := h.symm
      subst h'
      clear h
      go_wp2_with fail
      refine HA.out.mono ?_
      rintro e w2 ⟨rfl, h⟩
      have h' := h.symm
      subst h'
      clear h
      go_wp2_with fail
      refine HF.out.mono ?_
      rintro e w3 ⟨rfl, h⟩
      have h' := h.symm
      subst h'
      clear h
      go_wp2_with fail
      refine HD.out.mono ?_
      rintro e w4 ⟨rfl, hr⟩
      obtain ⟨T1, v1, hr1, a1, a2, a3⟩ := hr
      have HC := hid (HO.out w4 T1 v1 hr1)
      have HB := hid (And.intro a1 (And.intro a2 a3))
      clear hr1 a1 a2 a3
      go_wp2_with fail
      refine HC.out.mono ?_
      rintro e w5 ⟨rfl, hr⟩
      have HZ := hid (hr.trans T1 HB.out.1 HB.out.2.1 HB.out.2.2)
      clear hr
      go_wp2_with fail
      go_ret
      exact ⟨rfl, HZ.out⟩
    · rw [if_neg hf, if_neg hf]
      have hf' : ((size - totalA l : Nat) : Int) + (x.bs.length : Int) < (b.size : Int) := by omega
      generalize x.bs.length = xl at *
      generalize size - totalA l = fr at *
      generalize strOf x.bs = S0 at *
      clear h hlk hi hx hxn hE hk hf HD HO
      go_enter Tryz.func55, Tryz.ntmps55
      go_wp2_with fail
      refine HM.out.mono ?_
      rintro e w1 ⟨rfl, h⟩
      have h' := h.symm
      subst h'
      clear h
      go_wp2_with fail
      refine HA.out.mono ?_
      rintro e w2 ⟨rfl, h⟩
      have h' := h.symm
      subst h'
      clear h
      go_wp2_with fail
      refine HF.out.mono ?_
      rintro e w3 ⟨rfl, h⟩
      have h' := h.symm
      subst h'
      clear h
      go_wp2_with fail
      go_ret
      exact ⟨rfl, HR.out⟩
  | none =>
    rw [idxI_no hi] at HA
    obtain ⟨hno, hnm⟩ := idx_no hi
    rw [(look_none hno).1]
    simp only [List.length_nil, Nat.add_zero]
    have HO := hid (rput_new h (by omega) hk.srt ⟨n.data.toList, b.data.toList, b.size⟩ hnm)
    simp only [strOf_of] at HO
    by_cases hf : b.size ≤ size - totalA l
    · rw [if_pos hf, if_pos hf]
      have hf' : ¬ ((size - totalA l : Nat) : Int) < (b.size : Int) := by omega
      generalize size - totalA l = fr at *
      clear h hno hnm hi hE hk hf
      go_enter Tryz.func55, Tryz.ntmps55
      go_wp2_with fail
      refine HM.out.mono ?_
      rintro e w1 ⟨rfl, h⟩
      have h' := h.symm
      subst h'
      clear h
      go_wp2_with fail
      refine HA.out.mono ?_
      rintro e w2 ⟨rfl, h⟩
      have h' := h.symm
      subst h'
      clear h
      go_wp2_with fail
      refine HF.out.mono ?_
      rintro e w3 ⟨rfl, h⟩
      have h' := h.symm
      subst h'
      clear h
      go_wp2_with fail
      refine HO.out.mono ?_
      rintro e w5 ⟨rfl, hr⟩
      have HZ := hid hr
      clear hr
      go_wp2_with fail
      go_ret
      exact ⟨rfl, HZ.out⟩
    · rw [if_neg hf, if_neg hf]
      have hf' : ((size - totalA l : Nat) : Int) < (b.size : Int) := by omega
      generalize size - totalA l = fr at *
      clear h hno hnm hi hE hk hf HO
      go_enter Tryz.func55, Tryz.ntmps55
      go_wp2_with fail
      refine HM.out.mono ?_
      rintro e w1 ⟨rfl, h⟩
      have h' := h.symm
      subst h'
      clear h
      go_wp2_with fail
      refine HA.out.mono ?_
      rintro e w2 ⟨rfl, h⟩
      have h' := h.symm
      subst h'
      clear h
      go_wp2_with fail
      refine HF.out.mono ?_
      rintro e w3 ⟨rfl, h⟩
      have h' := h.symm
      subst h'
      clear h
      go_wp2_with fail
      go_ret
      exact ⟨rfl, HR.out⟩

theorem rput_box {V : World} {T2 : Nat → Prop} {r size : Nat} {v2 : Value} {l1 : List AF} {y : AF} (h : RefM V T2 r size v2 (adel l1 y.name)) (hl : l1.length ≤ 256) (hs : Srt l1) (q : Nat) (hq : ¬ T2 q) (u : Value) :
    Calls Tryz.prog 73 #[.pointer (some ⟨r, 0, none⟩), .agg #[.string (strOf y.name), .string (strOf y.bs), .int .i64 (y.safe : Int)]] (V.setCell ⟨q, 0, none⟩ u) fun e w' => e = .returned (.tuple #[]) ∧ RAfter T2 (V.setCell ⟨q, 0, none⟩ u) w' r size (aput l1 y) :=
  rput_over (h.kept (fun k hk => Below.heap_setCell V ⟨q, 0, none⟩ u k (fun e => hq (by have e' : k = q := e; rw [← e']; exact hk))) (by simp [World.setCell])) hl hs
theorem RAfter.wrap {T T2 : Nat → Prop} {w V w5 : World} {r size q : Nat} {u : Value} {l' : List AF} (hq : w.heap.size ≤ q) (hk : Keeps T w V) (h1 : ∀ k, T2 k → T k ∨ w.heap.size ≤ k) (h2 : ∀ k, T k → T2 k) (h : RAfter T2 (V.setCell ⟨q, 0, none⟩ u) w5 r size l') : RAfter T w w5 r size l' :=
  RAfter.trans (w1 := V.setCell ⟨q, 0, none⟩ u) T2 h1 h2 ⟨hk.os, hk.tape, hk.output, by simp [World.setCell]; exact hk.size, fun k hkk hT => (Below.heap_setCell V ⟨q, 0, none⟩ u k (by show _ ≠ q; omega)).trans (hk.block k hkk hT)⟩ h
/-- Behind the drop, or behind both: what put asks, and what it leaves. -/
structure RenMid (w V : World) (T T2 : Nat → Prop) (r size : Nat) (v2 : Value) (l2 : List AF) (O : Obj) : Prop where
  ref : RefM V T2 r size v2 l2
  new : ∀ k, T2 k → T k ∨ w.heap.size < k
  old : ∀ k, T k → T2 k
  keep : Keeps T w V
  box : V.heap[w.heap.size]? = some O
theorem RenMid.one {w w3 : World} {T : Nat → Prop} {r size : Nat} {l1 : List AF} {O : Obj} (hT : ∀ k, T k → k < w.heap.size) (h : RAfter T (w.alloc O) w3 r size l1) : ∃ T1 v1, RenMid w w3 T T1 r size v1 l1 O := by
  obtain ⟨T1, v1, hr, a1, a2, a3⟩ := h
  refine ⟨T1, v1, hr, fun k hk => ?_, a2, (Keeps.of_below ((Below.refl w.heap.size w).alloc (Nat.le_refl _) O)).trans a3 (fun x hx => .inl hx), ?_⟩
  · rcases a1 k hk with h | h
    · exact .inl h
    · simp at h; exact .inr (by omega)
  · rw [a3.block w.heap.size (by simp) (fun h => by have := hT _ h; omega)]
    exact heap_alloc_new w O
theorem RenMid.two {w w3 w4 : World} {T T1 : Nat → Prop} {r size : Nat} {v1 : Value} {l1 l2 : List AF} {O : Obj} (hT : ∀ k, T k → k < w.heap.size) (m : RenMid w w3 T T1 r size v1 l1 O) (h : RAfter T1 w3 w4 r size l2) : ∃ T2 v2, RenMid w w4 T T2 r size v2 l2 O := by
  obtain ⟨T2, v2, hr, a1, a2, a3⟩ := h
  have hs := m.keep.size
  have hlt : w.heap.size < w3.heap.size := (Array.getElem?_eq_some_iff.1 m.box).1
  refine ⟨T2, v2, hr, fun k hk => ?_, fun k hk => a2 k (m.old k hk), m.keep.trans a3 (fun x hx => (m.new x hx).imp id (fun h => by omega)), ?_⟩
  · rcases a1 k hk with h | h
    · exact m.new k h
    · exact .inr (by omega)
  · rw [a3.block w.heap.size hlt (fun h => by rcases m.new _ h with h | h; (have := hT _ h; omega); omega)]
    exact m.box
theorem RenMid.off {w V : World} {T T2 : Nat → Prop} {r size : Nat} {v2 : Value} {l2 : List AF} {O : Obj} (hT : ∀ k, T k → k < w.heap.size) (m : RenMid w V T T2 r size v2 l2 O) : ¬ T2 w.heap.size := fun h => by
  rcases m.new _ h with h | h
  · have := hT _ h; omega
  · omega

end Go.Proofs.YtjggdecjnnpjaaaGreat

