/- A list is read back. -/
import Derived.Test.YtcffomhcmilcpaaGreatKB1
namespace Go.Proofs.YtcffomhcmilcpaaGreat
open Go.RowKit Go.Maps
set_option maxRecDepth 100000
set_option linter.unusedSimpArgs false
set_option linter.unusedVariables false

theorem intsL_drop (ns : List Int) (k : Nat) (h : k < ns.length) : W.intsL (ns.drop k) = W.intL ns[k] ++ W.intsL (ns.drop (k + 1)) := by
  rw [List.drop_eq_getElem_cons h]
  rfl
theorem row_keptU {w w1 : World} {B e s : Nat} {v : Value} {n : Nat} {xs : List Value} (h : w.ownsRow B e s v n xs) (hb : ∀ k, v.ownBlock = some k → w1.heap[k]? = w.heap[k]?) : w1.ownsRow B e s v n xs := by
  obtain ⟨h1, h2⟩ := h
  rcases h2 with h2 | ⟨g, cap, cur, rfl, hB, hg, r⟩
  · exact ⟨h1, .inl h2⟩
  · exact ⟨h1, .inr ⟨g, cap, cur, rfl, hB, (hb g rfl).trans hg, r⟩⟩
/-- Some numbers are read, the rest lies ahead. -/
def RLs (w U wr : World) (Z : Nat → Prop) (q x : Nat) (I : Im) (ns : List Int) (l : List UInt8) (k : Nat) (v : Value) : Prop :=
  LO w U wr Z q x I (W.intsL (ns.drop k) ++ l) ∧ wr.ownsRow U.heap.size 3 1 v k (vals (ns.take k))
set_option maxHeartbeats 3200000 in
theorem readList_any {w U : World} {Z : Nat → Prop} {q x : Nat} {I : Im} {ns : List Int} {l : List UInt8} {most : Int} (h : LS w U Z q x I (lstB ns ++ l)) (hn : (ns.length : Int) ≤ most) (hm : most ≤ 1000) (hi : ∀ n ∈ ns, I64 n) :
    Calls Tryz.prog 97 #[.pointer (some ⟨x, 0, none⟩), .int .i64 most] U fun e w' => ∃ v, e = .returned v ∧ IL w' v ns ∧ In (fun b => U.heap.size ≤ b) v ns ∧ w'.ownsRow U.heap.size 3 1 v ns.length (vals ns) ∧ LO w U w' Z q x I l := by
  obtain ⟨i0, hi0, hz0, hz1, hz2⟩ := info3
  have h' : LS w U Z q x I (W.intL (ns.length : Int) ++ (W.intsL ns ++ l)) := by
    rw [← List.append_assoc]
    exact h
  have hxl := h.lt
  have HWU : Hid (w.heap.size ≤ U.heap.size) := h.below.size
  have HZL : Hid (∀ k, Z k → k < U.heap.size) := h.1.1.lt
  have HC := hid (h'.count (n := (ns.length : Int)) (most := most) ⟨by omega, hn⟩ (by omega))
  have HI := hid hi
  clear h h' hi
  go_enter Tryz.func97, Tryz.ntmps97
  go_wp2_with fail
  refine HC.out.mono ?_
  rintro e U1 ⟨rfl, ho⟩
  have H0 : Hid (RLs w U U1 Z q x I ns l 0 (.slice none 0 0)) := ⟨by simpa using ho, World.ownsRow_nil _ _ _ _⟩
  clear ho HC
  go_wp2_with fail
  go_loopg [5, 9] ns.length (fun kx s5 s9 wr => ∃ (k : Nat) (oa : Option Addr) (c : Nat), k ≤ ns.length ∧ ns.length - k ≤ kx ∧ s5 = .slice oa k c ∧ s9 = .int .i64 (k : Int) ∧ Hid (RLs w U wr Z q x I ns l k (.slice oa k c)))
  case atStart => exact ⟨0, none, 0, Nat.zero_le _, by omega, rfl, rfl, H0.out⟩
  case round =>
    obtain ⟨k, oa, c, hk, hkx, rfl, rfl, HK⟩ := hrel
    clear H0
    by_cases hlt : k < ns.length
    · have hlt' : (k : Int) < (ns.length : Int) := by omega
      have HCI : Hid (Calls Tryz.prog 43 #[.pointer (some ⟨x, 0, none⟩)] wr fun e w' => e = .returned (.int .i64 ns[k]) ∧ LO w wr w' Z q x I (W.intsL (ns.drop (k + 1)) ++ l)) := by
        have := HK.out.1.1
        rw [intsL_drop ns k hlt, List.append_assoc] at this
        exact this.int (HI.out _ (List.getElem_mem hlt))
      have HT : Hid (vals (ns.take k) ++ [.int .i64 ns[k]] = vals (ns.take (k + 1))) := by
        show _ = _
        rw [List.take_succ_eq_append_getElem hlt]
        unfold vals
        rw [List.map_append]
        rfl
      generalize ns[k] = y at *
      go_wp2_with fail
      refine HCI.out.mono ?_
      rintro e w2 ⟨rfl, ho⟩
      have HL : Hid (LO w U w2 Z q x I (W.intsL (ns.drop (k + 1)) ++ l)) := HK.out.1.trans ho
      have HX : Hid ((w2.alloc (.cells #[.int .i64 y] 3)).ownsRow U.heap.size 3 1 (.slice oa k c) k (vals (ns.take k))) := by
        have h2 := row_keptU HK.out.2 (w1 := w2) (fun j hj => by
          have := World.ownsRow.lt HK.out.2 j hj
          exact ho.2.block j this.2 (by omega))
        exact h2.alloc _
      have HN1 : Hid (∀ j u, ([.int .i64 y] : List Value)[j]? = some u → (w2.alloc (.cells #[.int .i64 y] 3)).cell? ((⟨w2.heap.size, 0, none⟩ : Addr).add j) = some u) := fun j u hu => by
        cases j with
        | zero => simp at hu; subst hu; rw [add_at]; exact cell_blk (heap_alloc_new _ _) 0 _ rfl
        | succ j => simp at hu
      have HO2 : Hid (∀ u ∈ ([.int .i64 y] : List Value), u.oneCell' = true) := fun u hu => by simp at hu; subst hu; rfl
      have HWZ : Hid ((w2.alloc (.cells #[.int .i64 y] 3)).heap.size = w2.heap.size + 1) := by show _ = _; simp
      have hbs := HL.out.2.size
      have HNX : Hid (∀ w3 g c2, w3.ownsRow U.heap.size 3 1 (.slice (some ⟨g, 0, none⟩) (k + 1) c2) (k + 1) (vals (ns.take k) ++ [.int .i64 y]) → (w2.alloc (.cells #[.int .i64 y] 3)).grownBy w3 (Value.slice oa k c).ownBlock → RLs w U w3 Z q x I ns l (k + 1) (.slice (some ⟨g, 0, none⟩) (k + 1) c2)) := fun w3 g c2 h1 h2 => by
        rw [HT.out] at h1
        have hB : Below U.heap.size w2 w3 := (((Below.refl _ _).alloc (Nat.le_refl _) _).mono hbs).grown h2 (by simp; omega) (fun j hj => (World.ownsRow.lt HX.out j hj).1)
        obtain ⟨⟨⟨z1, z2⟩, z3, z4, z5⟩, z6⟩ := HL.out
        exact ⟨⟨⟨⟨z1.kept (fun k hk => hB.block k (HZL.out k hk)) hB.size, z2⟩, z3.kept (hB.block x hxl), z4, z5.trans (hB.mono HWU.out)⟩, ⟨hB.os.trans z6.os, hB.tape.trans z6.tape, hB.output.trans z6.output, Nat.le_trans z6.size hB.size, fun k hk hS => (hB.block k hk).trans (z6.block k hk hS)⟩⟩, h1⟩
      clear ho HCI HK
      go_wp2_with (at_builtin; go_loud (refine wpList_append_lies _ rfl _ _ 23 rfl U.heap.size 3 i0 _ 1 8 Tryz.underlying23 hi0 hz0 hz1 hz2 rfl (by decide) _ k _ rfl HX.out ⟨w2.heap.size, 0, none⟩ 1 1 [.int .i64 y] rfl rfl HN1.out HO2.out (by decide) (by unfold maxLen; omega) (by omega) (by simp; omega) (w2.heap.size + 1) HWZ.out ?_); intro g c2 w3 hown3 hg3 hat3 _; have HPS := hid (HNX.out w3 g c2 hown3 hg3); clear hown3 hg3 hat3)
      go_roundg (ns.length - (k + 1))
      case measure => omega
      case rel => exact ⟨k + 1, some ⟨g, 0, none⟩, c2, by omega, Nat.le_refl _, rfl, by go_num, HPS.out⟩
    · have hlt' : ¬ (k : Int) < (ns.length : Int) := by omega
      obtain rfl : k = ns.length := by omega
      go_wp2_with fail
      go_ret
      obtain ⟨r1, r2⟩ := HK.out
      rw [List.take_length] at r2
      rw [List.drop_length] at r1
      have r3 := il_of_row (l := ns) (by simpa [vals, intsV] using r2) HI.out (by omega)
      exact ⟨_, rfl, r3.1, r3.2, r2, r1⟩
end Go.Proofs.YtcffomhcmilcpaaGreat

