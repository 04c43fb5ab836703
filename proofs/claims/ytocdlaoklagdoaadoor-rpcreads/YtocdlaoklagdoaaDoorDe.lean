/- readBody, Decode of rpc. -/
import Derived.Test.YtocdlaoklagdoaaDoorRp
import Derived.Test.YtocdlaoklagdoaaDoorEn
namespace Go.Proofs.YtocdlaoklagdoaaDoor
open Go.RowKit Go.Maps
set_option linter.unusedSimpArgs false
set_option linter.unusedVariables false
set_option maxRecDepth 100000

theorem ptextS_len (most : Int) (s : RS) (h : 0 ≤ most) : ((textS most s).1.length : Int) ≤ most := by
  have hr := countS_range most s h
  unfold textS
  split
  · simpa using h
  · simp only [List.length_take]
    omega
theorem optT_len (b : Bool) (most : Int) (s : RS) (h : 0 ≤ most) : ((optT b most s).1.length : Int) ≤ most := by
  unfold optT
  split
  · exact ptextS_len most s h
  · simpa using h
theorem optN_ok (b : Bool) (s : RS) : I64 (optN b s).1 := by
  unfold optN
  split
  · exact numS_i64 s
  · exact ⟨by simp, by simp⟩
theorem someS_ok (p : Int) : ∀ (k : Nat) (s : RS), ∀ n ∈ (someS p k s).1, I64 n
  | 0, s, n, h => by simp [someS] at h
  | k + 1, s, n, h => by
    simp only [someS, List.mem_append, List.mem_singleton] at h
    rcases h with h | h
    · exact someS_ok p k s n h
    · rw [h]; exact optN_ok _ _
theorem manyS_mem {α : Type} (one : RS → α × RS) : ∀ (k : Nat) (s : RS), ∀ x ∈ (manyS one k s).1, ∃ t, x = (one t).1
  | 0, s, x, h => by simp [manyS] at h
  | k + 1, s, x, h => by
    simp only [manyS, List.mem_append, List.mem_singleton] at h
    rcases h with h | h
    · exact manyS_mem one k s x h
    · exact ⟨_, h⟩
theorem optL_mem {α : Type} (b : Bool) (most : Int) (one : RS → α × RS) (s : RS) : ∀ x ∈ (optL b most one s).1, ∃ t, x = (one t).1 := by
  unfold optL
  split
  · exact manyS_mem one _ _
  · intro x hx; simp at hx
theorem optL_len {α : Type} (b : Bool) (most : Int) (one : RS → α × RS) (s : RS) (h : 0 ≤ most) : ((optL b most one s).1.length : Int) ≤ most := by
  have hr := countS_range most s h
  unfold optL
  split
  · unfold listS
    rw [manyS_length]
    omega
  · simpa using h
theorem readBatchL_ints (l : List UInt8) : (readBatchL l).1.ints := by
  have z : zeroBat.ints := ⟨⟨by decide, by decide⟩, ⟨by decide, by decide⟩, ⟨by decide, by decide⟩, ⟨by decide, by decide⟩, ⟨by decide, by decide⟩⟩
  unfold readBatchL
  split
  · exact z
  · split
    · exact z
    · split
      · exact z
      · split
        · exact z
        · split
          · exact z
          · exact bodyS_ints _
theorem batS_ints (s : RS) : (batS s).1.ints := by
  unfold batS
  split
  · exact readBatchL_ints _
  · exact ⟨⟨by decide, by decide⟩, ⟨by decide, by decide⟩, ⟨by decide, by decide⟩, ⟨by decide, by decide⟩, ⟨by decide, by decide⟩⟩
theorem partsS_nums (s : RS) : nums (partsS s).1 = (someS (numS (numS s).2).1 14 (numS (numS s).2).2).1 := by
  have h := someS_length (numS (numS s).2).1 14 (numS (numS s).2).2
  unfold partsS
  simp only
  generalize (someS (numS (numS s).2).1 14 (numS (numS s).2).2).1 = L at *
  match L, h with
  | [a0, a1, a2, a3, a4, a5, a6, a7, a8, a9, a10, a11, a12, a13], _ => rfl
theorem partsS_ok (s : RS) : (partsS s).1.ok := by
  refine ⟨numS_i64 s, ?_, optN_ok _ _, ?_, ?_, ?_, ?_, ?_, ?_, ?_, ?_⟩
  · rw [partsS_nums]; exact someS_ok _ _ _
  · have : ((partsS s).1.name.length : Int) ≤ 32 := optT_len _ 32 _ (by omega)
    unfold maxLen; omega
  · have : ((partsS s).1.text.length : Int) ≤ 65528 := optT_len _ 65528 _ (by omega)
    unfold maxLen; omega
  · intro b hb
    obtain ⟨t, rfl⟩ := optL_mem _ _ _ _ b hb
    exact batS_ints t
  · have : ((partsS s).1.bats.length : Int) ≤ 64 := optL_len _ 64 _ _ (by omega)
    unfold maxLen; omega
  · intro e he
    obtain ⟨t, rfl⟩ := optL_mem _ _ _ _ e he
    refine ⟨numS_i64 _, numS_i64 _, ?_⟩
    have : ((entS t).1.data.length : Int) ≤ 2048 := ptextS_len 2048 _ (by omega)
    unfold maxLen; omega
  · have : ((partsS s).1.ents.length : Int) ≤ 64 := optL_len _ 64 _ _ (by omega)
    unfold maxLen; omega
  · intro n hn
    obtain ⟨t, rfl⟩ := optL_mem _ _ _ _ n hn
    exact numS_i64 t
  · have : ((partsS s).1.ints.length : Int) ≤ 256 := optL_len _ 256 _ _ (by omega)
    unfold maxLen; omega

theorem read_any (l : List UInt8) (w : World) : Calls Tryd.prog 38 #[.string (strOf l)] w fun e w' => e = .returned (.pointer (some ⟨w.heap.size, 0, none⟩)) ∧ w' = w.alloc (.cells #[.string (strOf l), .bool false] 80) := by
  go_enter Tryd.func38, Tryd.ntmps38
  go_wp2
  go_ret
  exact ⟨rfl, rfl⟩
theorem Tab.grown {w w' : World} {q : Nat} (h : Tab w) (hg : w.grownBy w' (some q)) (hq : 2 ≤ q) : Tab w' :=
  And.intro (fun j hj => (World.cell?_of_block (a := ⟨1, j, none⟩) (hg.block 1 (by have := h.2; omega) (fun e => by cases e; omega))).trans (h.1 j hj)) (Nat.le_trans h.2 hg.size)

theorem step_call40 {ops : Array Oper} {o : Oper} {a : Act} {w : World} {K : Act → World → Prop} {Q : Exit → Act → World → Prop} {E : Prop} {R : Ending → World → Prop} (hg : o.guard = none) (x : Nat)
    (ho : o.op = .call { callee := .value (.func 40), args := #[.tmp x], argTypes := #[67] }) (v : Value) (hx : a.tmps[x]?.getD undef = v) (hc : Calls Tryd.prog 40 #[v] w R) (hR : ∀ e w', R e w' → ∃ u, e = .returned u ∧ K (a.put o.dst u) w') :
    if Region.wanted o (yielded ops a.tmps) = true then Oper.wp Tryd.prog o a w K Q else E := by
  have hw : Region.wanted o (yielded ops a.tmps) = true := by simp [Region.wanted, hg]
  rw [if_pos hw]
  unfold Oper.wp
  simp only [go_sem, ho, hx]
  simp [go_sem, hx]
  refine hc.mono ?_
  rintro e w' hr
  obtain ⟨u, rfl, hK⟩ := hR e w' hr
  exact hK
theorem step_store27 {ops : Array Oper} {o : Oper} {a : Act} {w : World} {K : Act → World → Prop} {Q : Exit → Act → World → Prop} {E : Prop} (hg : o.guard = none) (x y : Nat) (ho : o.op = .store 27 (.tmp x) (.tmp y)) (g : Nat) (cs old : Array Value)
    (hx : a.tmps[x]?.getD undef = .pointer (some ⟨g, 0, none⟩)) (hy : a.tmps[y]?.getD undef = .agg cs) (h : w.heap[g]? = some (.cells old 27)) (hold : old.size = 21) (hn : cs.size = 21) (h1 : cs.all (·.oneCell') = true) (hK : K (a.put o.dst undef) (w.setRow g cs)) :
    if Region.wanted o (yielded ops a.tmps) = true then Oper.wp Tryd.prog o a w K Q else E := by
  have hw : Region.wanted o (yielded ops a.tmps) = true := by simp [Region.wanted, hg]
  rw [if_pos hw]
  exact wp_store_row 27 (.tmp x) (.tmp y) ho g cs (by simpa [Act.eval] using hx) (by simpa [Act.eval] using hy) 27 old h (by rw [size27, hn]) (by rw [hold, hn]) h1 hK
theorem ready_store27 {md : Region.Mode} {ops : Array Oper} {Q : Exit → Act → World → Prop} {S : World → Prop} {fuel : Nat} {listed : Array Bool} {a : Act} {w : World} {i : Nat} {o : Oper} (ho : ops[i]? = some o) (hg : o.guard = none) (x y : Nat) (hop : o.op = .store 27 (.tmp x) (.tmp y)) (g : Nat) (cs old : Array Value)
    (hx : a.tmps[x]?.getD undef = .pointer (some ⟨g, 0, none⟩)) (hy : a.tmps[y]?.getD undef = .agg cs) (h : w.heap[g]? = some (.cells old 27)) (hold : old.size = 21) (hn : cs.size = 21) (h1 : cs.all (·.oneCell') = true) (hS : S (w.setRow g cs))
    (hK : S (w.setRow g cs) → wpAnyH Tryd.prog md ops Q S fuel (listed.setIfInBounds i true) (a.put o.dst undef) (w.setRow g cs)) : AllReadyH Tryd.prog md ops Q S fuel listed a w [i] :=
  AllReadyH.cons ho (fun K hk => step_store27 hg x y hop g cs old hx hy h hold hn h1 (hk.out _ _ hS hK)) AllReadyH.nil
theorem results_cell_slot {fn : Func} {p r : Tmp} (h : fn.results = #[.cell p 27, .tmp r]) (tmps : Array Value) (w : World) (g : Nat) (cs : Array Value)
    (hp : tmps.getD p undef = .pointer (some ⟨g, 0, none⟩)) (hg : w.heap[g]? = some (.cells cs 27)) (hn : cs.size = 21) {u : Value} (hu : tmps.getD r undef = u) :
    (results fn tmps).run Tryd.prog w = .ok (.tuple #[.agg cs, u]) w := by
  have hp' : tmps[p]?.getD undef = .pointer (some ⟨g, 0, none⟩) := by simpa using hp
  have hu' : tmps[r]?.getD undef = u := by simpa using hu
  simp [results, h, hp', hu', asAddr, run_loadVar_row w g 27 27 cs (0, 0) _ hg Tryd.underlying27 rfl (by rw [size27, hn])]

set_option maxHeartbeats 3200000 in
theorem mb_no {w : World} (l : List UInt8) (hl : l.length ≤ maxLen) (hT : Tab w) (hD : doneS (partsS ⟨l, false⟩).2 = false) : Calls Tryd.prog 28 #[.string (strOf l)] w fun e w' => ∃ ba bc ea ec ia ic, e = .returned (.tuple #[.agg (cells21 (bodyR l).1.kind (nums (bodyR l).1) (bodyR l).1.err (bodyR l).1.name (bodyR l).1.text (.slice ba (bodyR l).1.bats.length bc) (.slice ea (bodyR l).1.ents.length ec) (.slice ia (bodyR l).1.ints.length ic)), .bool (bodyR l).2]) ∧ Below w.heap.size w w' ∧ BatsHi w.heap.size w' ba (bodyR l).1.bats ∧ EntsHi w.heap.size w' ea (bodyR l).1.ents ∧ IntsHi w.heap.size w' ia (bodyR l).1.ints := by
  have hw2 := hT.2
  have HN : Hid (bodyR l = ((partsS ⟨l, false⟩).1, doneS (partsS ⟨l, false⟩).2 && (decide ((rightM (partsS ⟨l, false⟩).1).2 = 0) && decide ((rightM (partsS ⟨l, false⟩).1).1 = l)))) := rfl
  have hok := partsS_ok ⟨l, false⟩
  have HP0 : Hid (Pd ((w.alloc (.cells #[.int .i64 0, .int .i64 0, .int .i64 0, .int .i64 0, .int .i64 0, .int .i64 0, .int .i64 0, .int .i64 0, .int .i64 0, .int .i64 0, .int .i64 0, .int .i64 0, .int .i64 0, .int .i64 0, .int .i64 0, .int .i64 0, .string ⟨#[]⟩, .string ⟨#[]⟩, .slice none 0 0, .slice none 0 0, .slice none 0 0] 27)).alloc (.cells #[.string (strOf l), .bool false] 80)) (w.heap.size + 1) ⟨l, false⟩) := ⟨heap_alloc2_new w _ _, hl⟩
  have H39 := hid (readParts_any HP0.out)
  have H38 := hid (fun W => read_any l W)
  have HT := hid hT
  clear hl hT
  generalize bodyR l = BR at *
  generalize partsS ⟨l, false⟩ = PS at *
  obtain ⟨m, s1⟩ := PS
  simp only at *
  have hR := rightM_len m
  have H21 : Hid (∀ (W : World) (ba : Option Addr) (bc : Nat) (ea : Option Addr) (ec : Nat) (ia : Option Addr) (ic : Nat), Here W m ba ea ia → Tab W → Calls Tryd.prog 21 #[.agg (cells21 m.kind (nums m) m.err m.name m.text (.slice ba m.bats.length bc) (.slice ea m.ents.length ec) (.slice ia m.ints.length ic))] W fun e w' => e = .returned (.tuple #[.string (strOf (rightM m).1), .int .i64 (rightM m).2]) ∧ Below W.heap.size W w') := fun W ba bc ea ec ia ic h1 h2 => rightBody_any m ba bc ea ec ia ic hok h1 h2
  generalize rightM m = RM at *
  obtain ⟨its, er⟩ := RM
  simp only at *
  go_enter Tryd.func28, Tryd.ntmps28
  go_wp2_with (go_at_call 38; refine (H38.out _).mono ?_; rintro e w1 ⟨rfl, rfl⟩)
  refine H39.out.mono ?_
  rintro e w2 ⟨ba, bc, ea, ec, ia, ic, rfl, hr2, hg2, hb2, he2, hi2⟩
  have hs2 : w.heap.size + 2 ≤ w2.heap.size := by have := hg2.size; simpa using this
  have hst : Hid (((w2.alloc (.cells #[.int .i64 0, .int .i64 0, .int .i64 0, .int .i64 0, .int .i64 0, .int .i64 0, .int .i64 0, .int .i64 0, .int .i64 0, .int .i64 0, .int .i64 0, .int .i64 0, .int .i64 0, .int .i64 0, .int .i64 0, .int .i64 0, .string ⟨#[]⟩, .string ⟨#[]⟩, .slice none 0 0, .slice none 0 0, .slice none 0 0] 27)).setRow w2.heap.size (cells21 m.kind (nums m) m.err m.name m.text (.slice ba m.bats.length bc) (.slice ea m.ents.length ec) (.slice ia m.ints.length ic))) = (w2.alloc (.cells (cells21 m.kind (nums m) m.err m.name m.text (.slice ba m.bats.length bc) (.slice ea m.ents.length ec) (.slice ia m.ints.length ic)) 27))) := World.setRow_alloc_new _ _ _ _
  have HA := hid (And.intro hr2 (And.intro hg2 (And.intro hb2 (And.intro he2 hi2))))
  have BX := hid (heap_alloc_new w2 (.cells (cells21 m.kind (nums m) m.err m.name m.text (.slice ba m.bats.length bc) (.slice ea m.ents.length ec) (.slice ia m.ints.length ic)) 27))
  have HTW : Hid (Tab (w2.alloc (.cells (cells21 m.kind (nums m) m.err m.name m.text (.slice ba m.bats.length bc) (.slice ea m.ents.length ec) (.slice ia m.ints.length ic)) 27))) := by
    have h1 : Tab ((w.alloc (.cells #[.int .i64 0, .int .i64 0, .int .i64 0, .int .i64 0, .int .i64 0, .int .i64 0, .int .i64 0, .int .i64 0, .int .i64 0, .int .i64 0, .int .i64 0, .int .i64 0, .int .i64 0, .int .i64 0, .int .i64 0, .int .i64 0, .string ⟨#[]⟩, .string ⟨#[]⟩, .slice none 0 0, .slice none 0 0, .slice none 0 0] 27)).alloc (.cells #[.string (strOf l), .bool false] 80)) := HT.out.under (((Below.refl _ w).alloc (Nat.le_refl _) _).alloc (by simp) _) hw2
    exact (h1.grown hg2 (by omega)).under ((Below.refl _ _).alloc (Nat.le_refl _) _) (by omega)
  have HH : Hid (Here (w2.alloc (.cells (cells21 m.kind (nums m) m.err m.name m.text (.slice ba m.bats.length bc) (.slice ea m.ents.length ec) (.slice ia m.ints.length ic)) 27)) m ba ea ia) := by
    have h0 : Here w2 m ba ea ia := ⟨hb2.at, he2.at, hi2.at⟩
    exact h0.under ((Below.refl _ _).alloc (Nat.le_refl _) _)
  clear hr2 hg2 hb2 he2 hi2
  go_wp2_with (first | (refine wpList_store_row rfl 27 _ _ rfl w2.heap.size (cells21 m.kind (nums m) m.err m.name m.text (.slice ba m.bats.length bc) (.slice ea m.ents.length ec) (.slice ia m.ints.length ic)) rfl rfl 27 _ (heap_alloc_new w2 _) size27 rfl (cells21_one _ _ _ _ _ _ _ _ rfl rfl rfl) ?_; rw [hst.out]) | (refine wpList_load_row rfl 27 _ rfl w2.heap.size rfl 27 (cells21 m.kind (nums m) m.err m.name m.text (.slice ba m.bats.length bc) (.slice ea m.ents.length ec) (.slice ia m.ints.length ic)) (0, 0) _ BX.out Tryd.underlying27 rfl size27 ?_) | (go_at_call 21; refine (H21.out _ ba bc ea ec ia ic HH.out HTW.out).mono ?_; rintro e w3 ⟨rfl, hb3⟩))
  have HP3 : Hid (Pd w3 (w.heap.size + 1) s1) := HA.out.1.kept ((hb3.block _ (by simp; omega)).trans (Below.heap_alloc w2 _ _ (by omega)))
  have BX3 : Hid (w3.heap[w2.heap.size]? = some (.cells (cells21 m.kind (nums m) m.err m.name m.text (.slice ba m.bats.length bc) (.slice ea m.ents.length ec) (.slice ia m.ints.length ic)) 27)) := (hb3.block _ (by simp)).trans BX.out
  have OX3 : Hid (w3.heap[w.heap.size]? = some (.cells #[.int .i64 0, .int .i64 0, .int .i64 0, .int .i64 0, .int .i64 0, .int .i64 0, .int .i64 0, .int .i64 0, .int .i64 0, .int .i64 0, .int .i64 0, .int .i64 0, .int .i64 0, .int .i64 0, .int .i64 0, .int .i64 0, .string ⟨#[]⟩, .string ⟨#[]⟩, .slice none 0 0, .slice none 0 0, .slice none 0 0] 27)) := by
    have h1 : w2.heap[w.heap.size]? = some (.cells #[.int .i64 0, .int .i64 0, .int .i64 0, .int .i64 0, .int .i64 0, .int .i64 0, .int .i64 0, .int .i64 0, .int .i64 0, .int .i64 0, .int .i64 0, .int .i64 0, .int .i64 0, .int .i64 0, .int .i64 0, .int .i64 0, .string ⟨#[]⟩, .string ⟨#[]⟩, .slice none 0 0, .slice none 0 0, .slice none 0 0] 27) := (HA.out.2.1.block w.heap.size (by simp; omega) (fun e => by have := Option.some.inj e; omega)).trans (by rw [Below.heap_alloc _ _ _ (by simp)]; exact heap_alloc_new w _)
    exact (hb3.block _ (by simp; omega)).trans ((Below.heap_alloc w2 _ _ (by omega)).trans h1)
  have H40 : Hid (∀ W : World, W.heap = w3.heap → Calls Tryd.prog 40 #[.pointer (some ⟨w.heap.size + 1, 0, none⟩)] W fun e w' => e = .returned (.bool (doneS s1)) ∧ W = w') := fun W h => pdone_any (HP3.out.kept (by rw [h]))
  have HK : Hid (Below w.heap.size w (w3.drew.setRow w.heap.size (cells21 m.kind (nums m) m.err m.name m.text (.slice ba m.bats.length bc) (.slice ea m.ents.length ec) (.slice ia m.ints.length ic))) ∧ BatsHi w.heap.size (w3.drew.setRow w.heap.size (cells21 m.kind (nums m) m.err m.name m.text (.slice ba m.bats.length bc) (.slice ea m.ents.length ec) (.slice ia m.ints.length ic))) ba m.bats ∧ EntsHi w.heap.size (w3.drew.setRow w.heap.size (cells21 m.kind (nums m) m.err m.name m.text (.slice ba m.bats.length bc) (.slice ea m.ents.length ec) (.slice ia m.ints.length ic))) ea m.ents ∧ IntsHi w.heap.size (w3.drew.setRow w.heap.size (cells21 m.kind (nums m) m.err m.name m.text (.slice ba m.bats.length bc) (.slice ea m.ents.length ec) (.slice ia m.ints.length ic))) ia m.ints) := by
    obtain ⟨a1, a2, a3, a4, a5⟩ := HA.out
    have hs3 := hb3.size
    simp at hs3
    have z : ((w.alloc (.cells #[.int .i64 0, .int .i64 0, .int .i64 0, .int .i64 0, .int .i64 0, .int .i64 0, .int .i64 0, .int .i64 0, .int .i64 0, .int .i64 0, .int .i64 0, .int .i64 0, .int .i64 0, .int .i64 0, .int .i64 0, .int .i64 0, .string ⟨#[]⟩, .string ⟨#[]⟩, .slice none 0 0, .slice none 0 0, .slice none 0 0] 27)).alloc (.cells #[.string (strOf l), .bool false] 80)).heap.size = w.heap.size + 2 := by simp
    rw [z] at a3 a4 a5
    have kp : ∀ j, w.heap.size + 2 ≤ j → j < w2.heap.size → (w3.drew.setRow w.heap.size (cells21 m.kind (nums m) m.err m.name m.text (.slice ba m.bats.length bc) (.slice ea m.ents.length ec) (.slice ia m.ints.length ic))).heap[j]? = w2.heap[j]? := fun j h1 h2 => by
      rw [setRow_other _ _ _ _ (by omega)]
      show w3.heap[j]? = _
      rw [hb3.block j (by simp; omega), Below.heap_alloc w2 _ j h2]
    have sz : w2.heap.size ≤ (w3.drew.setRow w.heap.size (cells21 m.kind (nums m) m.err m.name m.text (.slice ba m.bats.length bc) (.slice ea m.ents.length ec) (.slice ia m.ints.length ic))).heap.size := by rw [setRow_size]; show _ ≤ w3.heap.size; omega
    refine ⟨?_, (a3.keep kp sz).low (by omega), (a4.keep kp sz).low (by omega), (a5.keep kp sz).low (by omega)⟩
    have b1 : Below w.heap.size w w2 := by
      refine ⟨a2.os, a2.tape, a2.output, by omega, fun k hk => ?_⟩
      rw [a2.block k (by simp; omega) (fun e => by have := Option.some.inj e; omega), Below.heap_alloc _ _ k (by simp; omega), Below.heap_alloc _ _ k hk]
    have b2 : Below w.heap.size w w3 := (b1.alloc (by omega) _).trans (hb3.mono (by simp; omega))
    exact below_setRow b2.drew (Nat.le_refl _) _
  have htl : ∀ x y : List UInt8, ((strOf x).toList == (strOf y).toList) = decide (x = y) := fun x y => by
    rw [Lib.toList_data, Lib.toList_data, strOf_data, strOf_data]
    by_cases h : x = y <;> simp [h]
  have OX4 : Hid (w3.drew.heap[w.heap.size]? = some (.cells #[.int .i64 0, .int .i64 0, .int .i64 0, .int .i64 0, .int .i64 0, .int .i64 0, .int .i64 0, .int .i64 0, .int .i64 0, .int .i64 0, .int .i64 0, .int .i64 0, .int .i64 0, .int .i64 0, .int .i64 0, .int .i64 0, .string ⟨#[]⟩, .string ⟨#[]⟩, .slice none 0 0, .slice none 0 0, .slice none 0 0] 27)) := OX3.out
  have C1 : Hid ((cells21 m.kind (nums m) m.err m.name m.text (.slice ba m.bats.length bc) (.slice ea m.ents.length ec) (.slice ia m.ints.length ic)).all (·.oneCell') = true) := cells21_one _ _ _ _ _ _ _ _ rfl rfl rfl
  have HS2 : Hid ((w3.drew.setRow w.heap.size (cells21 m.kind (nums m) m.err m.name m.text (.slice ba m.bats.length bc) (.slice ea m.ents.length ec) (.slice ia m.ints.length ic))).heap[w2.heap.size]? = some (.cells (cells21 m.kind (nums m) m.err m.name m.text (.slice ba m.bats.length bc) (.slice ea m.ents.length ec) (.slice ia m.ints.length ic)) 27)) := (setRow_other _ _ _ _ (by omega)).trans BX3.out
  have HR2 : Hid ((w3.drew.setRow w.heap.size (cells21 m.kind (nums m) m.err m.name m.text (.slice ba m.bats.length bc) (.slice ea m.ents.length ec) (.slice ia m.ints.length ic))).heap[w.heap.size]? = some (.cells (cells21 m.kind (nums m) m.err m.name m.text (.slice ba m.bats.length bc) (.slice ea m.ents.length ec) (.slice ia m.ints.length ic)) 27)) := setRow_heap _ _ _ _ 27 (0, 0) OX4.out
  clear HA BX HTW HH hst hb3 HP3 H39 H38 H21 HT HP0
  generalize hbq : w2.heap.size = b at *
  clear hbq
  rw [hD] at H40
  have HF : Hid (BR = (m, false)) := by show _ = _; rw [HN.out, hD]; simp
  refine wp_region_held_drew (S := fun W => W.heap[b]? = some (.cells (cells21 m.kind (nums m) m.err m.name m.text (.slice ba m.bats.length bc) (.slice ea m.ents.length ec) (.slice ia m.ints.length ic)) 27)) (by kernel_rfl) BX3.out (fun hHeld => ?_)
  refine wpAnyH_take (i := 0) (v := .agg (cells21 m.kind (nums m) m.err m.name m.text (.slice ba m.bats.length bc) (.slice ea m.ents.length ec) (.slice ia m.ints.length ic))) rfl (by kernel_rfl) (by kernel_rfl) (by kernel_rfl) (fun _ _ _ h => h) (yieldsIf_load27 (by kernel_rfl) _ rfl b rfl (cells21 m.kind (nums m) m.err m.name m.text (.slice ba m.bats.length bc) (.slice ea m.ents.length ec) (.slice ia m.ints.length ic)) (fun _ h => h) rfl) hHeld ?_
  simp only [Act.put, List.setIfInBounds_toArray, List.set_cons_zero, List.set_cons_succ]
  refine wpAnyH_take (i := 1) (v := .pointer (some ⟨w.heap.size + 1, 0, none⟩)) rfl (by kernel_rfl) (by kernel_rfl) (by kernel_rfl) (fun _ _ _ h => h) (Or.inl ⟨by kernel_rfl, fun W hW => by go_simp⟩) hHeld ?_
  simp only [Act.put, List.setIfInBounds_toArray, List.set_cons_zero, List.set_cons_succ]
  refine wpAnyH_ready (rs := [2]) (by kernel_rfl) (by simp) ?_
  refine AllReadyH.cons rfl (fun K hK => ?_) AllReadyH.nil
  refine step_call40 rfl 18 rfl (.pointer (some ⟨w.heap.size + 1, 0, none⟩)) (by simp) (H40.out _ rfl) ?_
  rintro e w4 ⟨rfl, rfl⟩
  refine ⟨_, rfl, ?_⟩
  refine hK.out _ _ hHeld (fun _ => ?_)
  simp only [Act.put, List.setIfInBounds_toArray, List.set_cons_zero, List.set_cons_succ]
  clear hK K
  refine wpAnyH_take (i := 3) (v := .bool false) rfl (by kernel_rfl) (by kernel_rfl) (by kernel_rfl) (fun _ _ _ h => h) (Or.inl ⟨by kernel_rfl, fun W hW => by go_simp⟩) hHeld ?_
  simp only [Act.put, List.setIfInBounds_toArray, List.set_cons_zero, List.set_cons_succ]
  refine wpAnyH_take (i := 4) (v := undef) rfl (by kernel_rfl) (by kernel_rfl) (by kernel_rfl) (fun _ _ _ h => h) (Or.inr ⟨by kernel_rfl, rfl⟩) hHeld ?_
  simp only [Act.put, List.setIfInBounds_toArray, List.set_cons_zero, List.set_cons_succ]
  refine wpAnyH_take (i := 5) (v := undef) rfl (by kernel_rfl) (by kernel_rfl) (by kernel_rfl) (fun _ _ _ h => h) (Or.inr ⟨by kernel_rfl, rfl⟩) hHeld ?_
  simp only [Act.put, List.setIfInBounds_toArray, List.set_cons_zero, List.set_cons_succ]
  refine wpAnyH_take (i := 6) (v := .bool false) rfl (by kernel_rfl) (by kernel_rfl) (by kernel_rfl) (fun _ _ _ h => h) (Or.inl ⟨by kernel_rfl, fun W hW => by go_simp⟩) hHeld ?_
  simp only [Act.put, List.setIfInBounds_toArray, List.set_cons_zero, List.set_cons_succ]
  refine wpAnyH_take (i := 7) (v := .bool false) rfl (by kernel_rfl) (by kernel_rfl) (by kernel_rfl) (fun _ _ _ h => h) (Or.inl ⟨by kernel_rfl, fun W hW => by go_simp⟩) hHeld ?_
  simp only [Act.put, List.setIfInBounds_toArray, List.set_cons_zero, List.set_cons_succ]
  refine wpAnyH_take (i := 8) (v := undef) rfl (by kernel_rfl) (by kernel_rfl) (by kernel_rfl) (fun _ _ _ h => h) (Or.inr ⟨by kernel_rfl, rfl⟩) hHeld ?_
  simp only [Act.put, List.setIfInBounds_toArray, List.set_cons_zero, List.set_cons_succ]
  refine wpAnyH_take (i := 9) (v := undef) rfl (by kernel_rfl) (by kernel_rfl) (by kernel_rfl) (fun _ _ _ h => h) (Or.inr ⟨by kernel_rfl, rfl⟩) hHeld ?_
  simp only [Act.put, List.setIfInBounds_toArray, List.set_cons_zero, List.set_cons_succ]
  refine wpAnyH_take (i := 10) (v := undef) rfl (by kernel_rfl) (by kernel_rfl) (by kernel_rfl) (fun _ _ _ h => h) (Or.inr ⟨by kernel_rfl, rfl⟩) hHeld ?_
  simp only [Act.put, List.setIfInBounds_toArray, List.set_cons_zero, List.set_cons_succ]
  refine wpAnyH_take (i := 11) (v := .bool false) rfl (by kernel_rfl) (by kernel_rfl) (by kernel_rfl) (fun _ _ _ h => h) (Or.inl ⟨by kernel_rfl, fun W hW => by go_simp⟩) hHeld ?_
  simp only [Act.put, List.setIfInBounds_toArray, List.set_cons_zero, List.set_cons_succ]
  refine wpAnyH_ready (rs := [12]) (by kernel_rfl) (by simp) ?_
  refine ready_store27 (o := ⟨none, .store 27 (.tmp 2) (.tmp 17), 0, "read.go:13", #[⟨0, .data⟩, ⟨7, .chain⟩, ⟨0, .phase⟩, ⟨1, .textOnly .lateStores⟩, ⟨2, .textOnly .lateStoresUnsure⟩, ⟨3, .textOnly .lateStores⟩, ⟨4, .textOnly .lateStores⟩, ⟨5, .textOnly .lateStores⟩, ⟨6, .textOnly .lateStores⟩, ⟨7, .textOnly .lateStores⟩, ⟨8, .textOnly .lateStores⟩, ⟨9, .textOnly .lateStores⟩, ⟨10, .textOnly .lateStores⟩, ⟨11, .textOnly .lateStores⟩], none⟩) (by kernel_rfl) rfl 2 17 rfl w.heap.size (cells21 m.kind (nums m) m.err m.name m.text (.slice ba m.bats.length bc) (.slice ea m.ents.length ec) (.slice ia m.ints.length ic)) #[.int .i64 0, .int .i64 0, .int .i64 0, .int .i64 0, .int .i64 0, .int .i64 0, .int .i64 0, .int .i64 0, .int .i64 0, .int .i64 0, .int .i64 0, .int .i64 0, .int .i64 0, .int .i64 0, .int .i64 0, .int .i64 0, .string ⟨#[]⟩, .string ⟨#[]⟩, .slice none 0 0, .slice none 0 0, .slice none 0 0] (by simp) (by simp) OX4.out rfl rfl C1.out HS2.out (fun hHeld2 => ?_)
  refine wpAnyH_ready (rs := [13]) (by kernel_rfl) (by simp) ?_
  refine AllReadyH.cons (o := ⟨some 3, .assign (.tmp 28), 4, "read.go:13", #[⟨11, .data⟩, ⟨12, .chain⟩, ⟨0, .phase⟩, ⟨1, .phase⟩, ⟨2, .phase⟩, ⟨3, .phase⟩, ⟨4, .phase⟩, ⟨5, .phase⟩, ⟨6, .phase⟩, ⟨7, .phase⟩, ⟨8, .phase⟩, ⟨9, .phase⟩, ⟨10, .phase⟩, ⟨11, .phase⟩, ⟨12, .phase⟩], none⟩) (by kernel_rfl) ?_ ?_
  rotate_left 1
  · exact AllReadyH.nil
  intro K hK
  go_simp
  refine hK.out _ _ hHeld2 (fun _ => ?_)
  clear hK K
  refine wpAnyH_done (by kernel_rfl) ?_ _
  go_wp2
  refine bodyPost_ret (v := .tuple #[.agg (cells21 m.kind (nums m) m.err m.name m.text (.slice ba m.bats.length bc) (.slice ea m.ents.length ec) (.slice ia m.ints.length ic)), .bool false]) (by exact results_cell_slot Tryd.results28 _ _ w.heap.size _ rfl HR2.out rfl rfl) rfl ⟨ba, bc, ea, ec, ia, ic, ?_, ?_, ?_, ?_, ?_⟩
  · rw [HF.out]
  · exact HK.out.1
  · rw [HF.out]; exact HK.out.2.1
  · rw [HF.out]; exact HK.out.2.2.1
  · rw [HF.out]; exact HK.out.2.2.2

set_option maxHeartbeats 3200000 in
theorem mb_ok {w : World} (l : List UInt8) (hl : l.length ≤ maxLen) (hT : Tab w) (hD : doneS (partsS ⟨l, false⟩).2 = true) (hE : (rightM (partsS ⟨l, false⟩).1).2 = 0) : Calls Tryd.prog 28 #[.string (strOf l)] w fun e w' => ∃ ba bc ea ec ia ic, e = .returned (.tuple #[.agg (cells21 (bodyR l).1.kind (nums (bodyR l).1) (bodyR l).1.err (bodyR l).1.name (bodyR l).1.text (.slice ba (bodyR l).1.bats.length bc) (.slice ea (bodyR l).1.ents.length ec) (.slice ia (bodyR l).1.ints.length ic)), .bool (bodyR l).2]) ∧ Below w.heap.size w w' ∧ BatsHi w.heap.size w' ba (bodyR l).1.bats ∧ EntsHi w.heap.size w' ea (bodyR l).1.ents ∧ IntsHi w.heap.size w' ia (bodyR l).1.ints := by
  have hw2 := hT.2
  have HN : Hid (bodyR l = ((partsS ⟨l, false⟩).1, doneS (partsS ⟨l, false⟩).2 && (decide ((rightM (partsS ⟨l, false⟩).1).2 = 0) && decide ((rightM (partsS ⟨l, false⟩).1).1 = l)))) := rfl
  have hok := partsS_ok ⟨l, false⟩
  have HP0 : Hid (Pd ((w.alloc (.cells #[.int .i64 0, .int .i64 0, .int .i64 0, .int .i64 0, .int .i64 0, .int .i64 0, .int .i64 0, .int .i64 0, .int .i64 0, .int .i64 0, .int .i64 0, .int .i64 0, .int .i64 0, .int .i64 0, .int .i64 0, .int .i64 0, .string ⟨#[]⟩, .string ⟨#[]⟩, .slice none 0 0, .slice none 0 0, .slice none 0 0] 27)).alloc (.cells #[.string (strOf l), .bool false] 80)) (w.heap.size + 1) ⟨l, false⟩) := ⟨heap_alloc2_new w _ _, hl⟩
  have H39 := hid (readParts_any HP0.out)
  have H38 := hid (fun W => read_any l W)
  have HT := hid hT
  clear hl hT
  generalize bodyR l = BR at *
  generalize partsS ⟨l, false⟩ = PS at *
  obtain ⟨m, s1⟩ := PS
  simp only at *
  have hR := rightM_len m
  have H21 : Hid (∀ (W : World) (ba : Option Addr) (bc : Nat) (ea : Option Addr) (ec : Nat) (ia : Option Addr) (ic : Nat), Here W m ba ea ia → Tab W → Calls Tryd.prog 21 #[.agg (cells21 m.kind (nums m) m.err m.name m.text (.slice ba m.bats.length bc) (.slice ea m.ents.length ec) (.slice ia m.ints.length ic))] W fun e w' => e = .returned (.tuple #[.string (strOf (rightM m).1), .int .i64 (rightM m).2]) ∧ Below W.heap.size W w') := fun W ba bc ea ec ia ic h1 h2 => rightBody_any m ba bc ea ec ia ic hok h1 h2
  generalize rightM m = RM at *
  obtain ⟨its, er⟩ := RM
  simp only at *
  go_enter Tryd.func28, Tryd.ntmps28
  go_wp2_with (go_at_call 38; refine (H38.out _).mono ?_; rintro e w1 ⟨rfl, rfl⟩)
  refine H39.out.mono ?_
  rintro e w2 ⟨ba, bc, ea, ec, ia, ic, rfl, hr2, hg2, hb2, he2, hi2⟩
  have hs2 : w.heap.size + 2 ≤ w2.heap.size := by have := hg2.size; simpa using this
  have hst : Hid (((w2.alloc (.cells #[.int .i64 0, .int .i64 0, .int .i64 0, .int .i64 0, .int .i64 0, .int .i64 0, .int .i64 0, .int .i64 0, .int .i64 0, .int .i64 0, .int .i64 0, .int .i64 0, .int .i64 0, .int .i64 0, .int .i64 0, .int .i64 0, .string ⟨#[]⟩, .string ⟨#[]⟩, .slice none 0 0, .slice none 0 0, .slice none 0 0] 27)).setRow w2.heap.size (cells21 m.kind (nums m) m.err m.name m.text (.slice ba m.bats.length bc) (.slice ea m.ents.length ec) (.slice ia m.ints.length ic))) = (w2.alloc (.cells (cells21 m.kind (nums m) m.err m.name m.text (.slice ba m.bats.length bc) (.slice ea m.ents.length ec) (.slice ia m.ints.length ic)) 27))) := World.setRow_alloc_new _ _ _ _
  have HA := hid (And.intro hr2 (And.intro hg2 (And.intro hb2 (And.intro he2 hi2))))
  have BX := hid (heap_alloc_new w2 (.cells (cells21 m.kind (nums m) m.err m.name m.text (.slice ba m.bats.length bc) (.slice ea m.ents.length ec) (.slice ia m.ints.length ic)) 27))
  have HTW : Hid (Tab (w2.alloc (.cells (cells21 m.kind (nums m) m.err m.name m.text (.slice ba m.bats.length bc) (.slice ea m.ents.length ec) (.slice ia m.ints.length ic)) 27))) := by
    have h1 : Tab ((w.alloc (.cells #[.int .i64 0, .int .i64 0, .int .i64 0, .int .i64 0, .int .i64 0, .int .i64 0, .int .i64 0, .int .i64 0, .int .i64 0, .int .i64 0, .int .i64 0, .int .i64 0, .int .i64 0, .int .i64 0, .int .i64 0, .int .i64 0, .string ⟨#[]⟩, .string ⟨#[]⟩, .slice none 0 0, .slice none 0 0, .slice none 0 0] 27)).alloc (.cells #[.string (strOf l), .bool false] 80)) := HT.out.under (((Below.refl _ w).alloc (Nat.le_refl _) _).alloc (by simp) _) hw2
    exact (h1.grown hg2 (by omega)).under ((Below.refl _ _).alloc (Nat.le_refl _) _) (by omega)
  have HH : Hid (Here (w2.alloc (.cells (cells21 m.kind (nums m) m.err m.name m.text (.slice ba m.bats.length bc) (.slice ea m.ents.length ec) (.slice ia m.ints.length ic)) 27)) m ba ea ia) := by
    have h0 : Here w2 m ba ea ia := ⟨hb2.at, he2.at, hi2.at⟩
    exact h0.under ((Below.refl _ _).alloc (Nat.le_refl _) _)
  clear hr2 hg2 hb2 he2 hi2
  go_wp2_with (first | (refine wpList_store_row rfl 27 _ _ rfl w2.heap.size (cells21 m.kind (nums m) m.err m.name m.text (.slice ba m.bats.length bc) (.slice ea m.ents.length ec) (.slice ia m.ints.length ic)) rfl rfl 27 _ (heap_alloc_new w2 _) size27 rfl (cells21_one _ _ _ _ _ _ _ _ rfl rfl rfl) ?_; rw [hst.out]) | (refine wpList_load_row rfl 27 _ rfl w2.heap.size rfl 27 (cells21 m.kind (nums m) m.err m.name m.text (.slice ba m.bats.length bc) (.slice ea m.ents.length ec) (.slice ia m.ints.length ic)) (0, 0) _ BX.out Tryd.underlying27 rfl size27 ?_) | (go_at_call 21; refine (H21.out _ ba bc ea ec ia ic HH.out HTW.out).mono ?_; rintro e w3 ⟨rfl, hb3⟩))
  have HP3 : Hid (Pd w3 (w.heap.size + 1) s1) := HA.out.1.kept ((hb3.block _ (by simp; omega)).trans (Below.heap_alloc w2 _ _ (by omega)))
  have BX3 : Hid (w3.heap[w2.heap.size]? = some (.cells (cells21 m.kind (nums m) m.err m.name m.text (.slice ba m.bats.length bc) (.slice ea m.ents.length ec) (.slice ia m.ints.length ic)) 27)) := (hb3.block _ (by simp)).trans BX.out
  have OX3 : Hid (w3.heap[w.heap.size]? = some (.cells #[.int .i64 0, .int .i64 0, .int .i64 0, .int .i64 0, .int .i64 0, .int .i64 0, .int .i64 0, .int .i64 0, .int .i64 0, .int .i64 0, .int .i64 0, .int .i64 0, .int .i64 0, .int .i64 0, .int .i64 0, .int .i64 0, .string ⟨#[]⟩, .string ⟨#[]⟩, .slice none 0 0, .slice none 0 0, .slice none 0 0] 27)) := by
    have h1 : w2.heap[w.heap.size]? = some (.cells #[.int .i64 0, .int .i64 0, .int .i64 0, .int .i64 0, .int .i64 0, .int .i64 0, .int .i64 0, .int .i64 0, .int .i64 0, .int .i64 0, .int .i64 0, .int .i64 0, .int .i64 0, .int .i64 0, .int .i64 0, .int .i64 0, .string ⟨#[]⟩, .string ⟨#[]⟩, .slice none 0 0, .slice none 0 0, .slice none 0 0] 27) := (HA.out.2.1.block w.heap.size (by simp; omega) (fun e => by have := Option.some.inj e; omega)).trans (by rw [Below.heap_alloc _ _ _ (by simp)]; exact heap_alloc_new w _)
    exact (hb3.block _ (by simp; omega)).trans ((Below.heap_alloc w2 _ _ (by omega)).trans h1)
  have H40 : Hid (∀ W : World, W.heap = w3.heap → Calls Tryd.prog 40 #[.pointer (some ⟨w.heap.size + 1, 0, none⟩)] W fun e w' => e = .returned (.bool (doneS s1)) ∧ W = w') := fun W h => pdone_any (HP3.out.kept (by rw [h]))
  have HK : Hid (Below w.heap.size w (w3.drew.setRow w.heap.size (cells21 m.kind (nums m) m.err m.name m.text (.slice ba m.bats.length bc) (.slice ea m.ents.length ec) (.slice ia m.ints.length ic))) ∧ BatsHi w.heap.size (w3.drew.setRow w.heap.size (cells21 m.kind (nums m) m.err m.name m.text (.slice ba m.bats.length bc) (.slice ea m.ents.length ec) (.slice ia m.ints.length ic))) ba m.bats ∧ EntsHi w.heap.size (w3.drew.setRow w.heap.size (cells21 m.kind (nums m) m.err m.name m.text (.slice ba m.bats.length bc) (.slice ea m.ents.length ec) (.slice ia m.ints.length ic))) ea m.ents ∧ IntsHi w.heap.size (w3.drew.setRow w.heap.size (cells21 m.kind (nums m) m.err m.name m.text (.slice ba m.bats.length bc) (.slice ea m.ents.length ec) (.slice ia m.ints.length ic))) ia m.ints) := by
    obtain ⟨a1, a2, a3, a4, a5⟩ := HA.out
    have hs3 := hb3.size
    simp at hs3
    have z : ((w.alloc (.cells #[.int .i64 0, .int .i64 0, .int .i64 0, .int .i64 0, .int .i64 0, .int .i64 0, .int .i64 0, .int .i64 0, .int .i64 0, .int .i64 0, .int .i64 0, .int .i64 0, .int .i64 0, .int .i64 0, .int .i64 0, .int .i64 0, .string ⟨#[]⟩, .string ⟨#[]⟩, .slice none 0 0, .slice none 0 0, .slice none 0 0] 27)).alloc (.cells #[.string (strOf l), .bool false] 80)).heap.size = w.heap.size + 2 := by simp
    rw [z] at a3 a4 a5
    have kp : ∀ j, w.heap.size + 2 ≤ j → j < w2.heap.size → (w3.drew.setRow w.heap.size (cells21 m.kind (nums m) m.err m.name m.text (.slice ba m.bats.length bc) (.slice ea m.ents.length ec) (.slice ia m.ints.length ic))).heap[j]? = w2.heap[j]? := fun j h1 h2 => by
      rw [setRow_other _ _ _ _ (by omega)]
      show w3.heap[j]? = _
      rw [hb3.block j (by simp; omega), Below.heap_alloc w2 _ j h2]
    have sz : w2.heap.size ≤ (w3.drew.setRow w.heap.size (cells21 m.kind (nums m) m.err m.name m.text (.slice ba m.bats.length bc) (.slice ea m.ents.length ec) (.slice ia m.ints.length ic))).heap.size := by rw [setRow_size]; show _ ≤ w3.heap.size; omega
    refine ⟨?_, (a3.keep kp sz).low (by omega), (a4.keep kp sz).low (by omega), (a5.keep kp sz).low (by omega)⟩
    have b1 : Below w.heap.size w w2 := by
      refine ⟨a2.os, a2.tape, a2.output, by omega, fun k hk => ?_⟩
      rw [a2.block k (by simp; omega) (fun e => by have := Option.some.inj e; omega), Below.heap_alloc _ _ k (by simp; omega), Below.heap_alloc _ _ k hk]
    have b2 : Below w.heap.size w w3 := (b1.alloc (by omega) _).trans (hb3.mono (by simp; omega))
    exact below_setRow b2.drew (Nat.le_refl _) _
  have htl : ∀ x y : List UInt8, ((strOf x).toList == (strOf y).toList) = decide (x = y) := fun x y => by
    rw [Lib.toList_data, Lib.toList_data, strOf_data, strOf_data]
    by_cases h : x = y <;> simp [h]
  have OX4 : Hid (w3.drew.heap[w.heap.size]? = some (.cells #[.int .i64 0, .int .i64 0, .int .i64 0, .int .i64 0, .int .i64 0, .int .i64 0, .int .i64 0, .int .i64 0, .int .i64 0, .int .i64 0, .int .i64 0, .int .i64 0, .int .i64 0, .int .i64 0, .int .i64 0, .int .i64 0, .string ⟨#[]⟩, .string ⟨#[]⟩, .slice none 0 0, .slice none 0 0, .slice none 0 0] 27)) := OX3.out
  have C1 : Hid ((cells21 m.kind (nums m) m.err m.name m.text (.slice ba m.bats.length bc) (.slice ea m.ents.length ec) (.slice ia m.ints.length ic)).all (·.oneCell') = true) := cells21_one _ _ _ _ _ _ _ _ rfl rfl rfl
  have HS2 : Hid ((w3.drew.setRow w.heap.size (cells21 m.kind (nums m) m.err m.name m.text (.slice ba m.bats.length bc) (.slice ea m.ents.length ec) (.slice ia m.ints.length ic))).heap[w2.heap.size]? = some (.cells (cells21 m.kind (nums m) m.err m.name m.text (.slice ba m.bats.length bc) (.slice ea m.ents.length ec) (.slice ia m.ints.length ic)) 27)) := (setRow_other _ _ _ _ (by omega)).trans BX3.out
  have HR2 : Hid ((w3.drew.setRow w.heap.size (cells21 m.kind (nums m) m.err m.name m.text (.slice ba m.bats.length bc) (.slice ea m.ents.length ec) (.slice ia m.ints.length ic))).heap[w.heap.size]? = some (.cells (cells21 m.kind (nums m) m.err m.name m.text (.slice ba m.bats.length bc) (.slice ea m.ents.length ec) (.slice ia m.ints.length ic)) 27)) := setRow_heap _ _ _ _ 27 (0, 0) OX4.out
  clear HA BX HTW HH hst hb3 HP3 H39 H38 H21 HT HP0
  generalize hbq : w2.heap.size = b at *
  clear hbq
  rw [hD] at H40
  subst hE
  have HF : Hid (BR = (m, decide (its = l))) := by show _ = _; rw [HN.out, hD]; simp
  have htl2 := htl its l
  refine wp_region_held_drew (S := fun W => W.heap[b]? = some (.cells (cells21 m.kind (nums m) m.err m.name m.text (.slice ba m.bats.length bc) (.slice ea m.ents.length ec) (.slice ia m.ints.length ic)) 27)) (by kernel_rfl) BX3.out (fun hHeld => ?_)
  refine wpAnyH_take (i := 0) (v := .agg (cells21 m.kind (nums m) m.err m.name m.text (.slice ba m.bats.length bc) (.slice ea m.ents.length ec) (.slice ia m.ints.length ic))) rfl (by kernel_rfl) (by kernel_rfl) (by kernel_rfl) (fun _ _ _ h => h) (yieldsIf_load27 (by kernel_rfl) _ rfl b rfl (cells21 m.kind (nums m) m.err m.name m.text (.slice ba m.bats.length bc) (.slice ea m.ents.length ec) (.slice ia m.ints.length ic)) (fun _ h => h) rfl) hHeld ?_
  simp only [Act.put, List.setIfInBounds_toArray, List.set_cons_zero, List.set_cons_succ]
  refine wpAnyH_take (i := 1) (v := .pointer (some ⟨w.heap.size + 1, 0, none⟩)) rfl (by kernel_rfl) (by kernel_rfl) (by kernel_rfl) (fun _ _ _ h => h) (Or.inl ⟨by kernel_rfl, fun W hW => by go_simp⟩) hHeld ?_
  simp only [Act.put, List.setIfInBounds_toArray, List.set_cons_zero, List.set_cons_succ]
  refine wpAnyH_ready (rs := [2]) (by kernel_rfl) (by simp) ?_
  refine AllReadyH.cons rfl (fun K hK => ?_) AllReadyH.nil
  refine step_call40 rfl 18 rfl (.pointer (some ⟨w.heap.size + 1, 0, none⟩)) (by simp) (H40.out _ rfl) ?_
  rintro e w4 ⟨rfl, rfl⟩
  refine ⟨_, rfl, ?_⟩
  refine hK.out _ _ hHeld (fun _ => ?_)
  simp only [Act.put, List.setIfInBounds_toArray, List.set_cons_zero, List.set_cons_succ]
  clear hK K
  refine wpAnyH_take (i := 3) (v := .bool true) rfl (by kernel_rfl) (by kernel_rfl) (by kernel_rfl) (fun _ _ _ h => h) (Or.inl ⟨by kernel_rfl, fun W hW => by go_simp⟩) hHeld ?_
  simp only [Act.put, List.setIfInBounds_toArray, List.set_cons_zero, List.set_cons_succ]
  refine wpAnyH_take (i := 4) (v := .int .i64 0) rfl (by kernel_rfl) (by kernel_rfl) (by kernel_rfl) (fun _ _ _ h => h) (Or.inl ⟨by kernel_rfl, fun W hW => by go_simp⟩) hHeld ?_
  simp only [Act.put, List.setIfInBounds_toArray, List.set_cons_zero, List.set_cons_succ]
  refine wpAnyH_take (i := 5) (v := .bool true) rfl (by kernel_rfl) (by kernel_rfl) (by kernel_rfl) (fun _ _ _ h => h) (Or.inl ⟨by kernel_rfl, fun W hW => by go_simp⟩) hHeld ?_
  simp only [Act.put, List.setIfInBounds_toArray, List.set_cons_zero, List.set_cons_succ]
  refine wpAnyH_take (i := 6) (v := .bool true) rfl (by kernel_rfl) (by kernel_rfl) (by kernel_rfl) (fun _ _ _ h => h) (Or.inl ⟨by kernel_rfl, fun W hW => by go_simp⟩) hHeld ?_
  simp only [Act.put, List.setIfInBounds_toArray, List.set_cons_zero, List.set_cons_succ]
  refine wpAnyH_take (i := 7) (v := .bool true) rfl (by kernel_rfl) (by kernel_rfl) (by kernel_rfl) (fun _ _ _ h => h) (Or.inl ⟨by kernel_rfl, fun W hW => by go_simp⟩) hHeld ?_
  simp only [Act.put, List.setIfInBounds_toArray, List.set_cons_zero, List.set_cons_succ]
  refine wpAnyH_take (i := 8) (v := .string (strOf its)) rfl (by kernel_rfl) (by kernel_rfl) (by kernel_rfl) (fun _ _ _ h => h) (Or.inl ⟨by kernel_rfl, fun W hW => by go_simp⟩) hHeld ?_
  simp only [Act.put, List.setIfInBounds_toArray, List.set_cons_zero, List.set_cons_succ]
  refine wpAnyH_take (i := 9) (v := .string (strOf l)) rfl (by kernel_rfl) (by kernel_rfl) (by kernel_rfl) (fun _ _ _ h => h) (Or.inl ⟨by kernel_rfl, fun W hW => by go_simp⟩) hHeld ?_
  simp only [Act.put, List.setIfInBounds_toArray, List.set_cons_zero, List.set_cons_succ]
  refine wpAnyH_take (i := 10) (v := .bool (decide (its = l))) rfl (by kernel_rfl) (by kernel_rfl) (by kernel_rfl) (fun _ _ _ h => h) (Or.inl ⟨by kernel_rfl, fun W hW => by go_simp⟩) hHeld ?_
  simp only [Act.put, List.setIfInBounds_toArray, List.set_cons_zero, List.set_cons_succ]
  refine wpAnyH_take (i := 11) (v := .bool (decide (its = l))) rfl (by kernel_rfl) (by kernel_rfl) (by kernel_rfl) (fun _ _ _ h => h) (Or.inl ⟨by kernel_rfl, fun W hW => by go_simp⟩) hHeld ?_
  simp only [Act.put, List.setIfInBounds_toArray, List.set_cons_zero, List.set_cons_succ]
  refine wpAnyH_ready (rs := [12]) (by kernel_rfl) (by simp) ?_
  refine ready_store27 (o := ⟨none, .store 27 (.tmp 2) (.tmp 17), 0, "read.go:13", #[⟨0, .data⟩, ⟨7, .chain⟩, ⟨0, .phase⟩, ⟨1, .textOnly .lateStores⟩, ⟨2, .textOnly .lateStoresUnsure⟩, ⟨3, .textOnly .lateStores⟩, ⟨4, .textOnly .lateStores⟩, ⟨5, .textOnly .lateStores⟩, ⟨6, .textOnly .lateStores⟩, ⟨7, .textOnly .lateStores⟩, ⟨8, .textOnly .lateStores⟩, ⟨9, .textOnly .lateStores⟩, ⟨10, .textOnly .lateStores⟩, ⟨11, .textOnly .lateStores⟩], none⟩) (by kernel_rfl) rfl 2 17 rfl w.heap.size (cells21 m.kind (nums m) m.err m.name m.text (.slice ba m.bats.length bc) (.slice ea m.ents.length ec) (.slice ia m.ints.length ic)) #[.int .i64 0, .int .i64 0, .int .i64 0, .int .i64 0, .int .i64 0, .int .i64 0, .int .i64 0, .int .i64 0, .int .i64 0, .int .i64 0, .int .i64 0, .int .i64 0, .int .i64 0, .int .i64 0, .int .i64 0, .int .i64 0, .string ⟨#[]⟩, .string ⟨#[]⟩, .slice none 0 0, .slice none 0 0, .slice none 0 0] (by simp) (by simp) OX4.out rfl rfl C1.out HS2.out (fun hHeld2 => ?_)
  refine wpAnyH_ready (rs := [13]) (by kernel_rfl) (by simp) ?_
  refine AllReadyH.cons (o := ⟨some 3, .assign (.tmp 28), 4, "read.go:13", #[⟨11, .data⟩, ⟨12, .chain⟩, ⟨0, .phase⟩, ⟨1, .phase⟩, ⟨2, .phase⟩, ⟨3, .phase⟩, ⟨4, .phase⟩, ⟨5, .phase⟩, ⟨6, .phase⟩, ⟨7, .phase⟩, ⟨8, .phase⟩, ⟨9, .phase⟩, ⟨10, .phase⟩, ⟨11, .phase⟩, ⟨12, .phase⟩], none⟩) (by kernel_rfl) ?_ ?_
  rotate_left 1
  · exact AllReadyH.nil
  intro K hK
  go_simp
  refine hK.out _ _ hHeld2 (fun _ => ?_)
  clear hK K
  refine wpAnyH_done (by kernel_rfl) ?_ _
  go_wp2
  refine bodyPost_ret (v := .tuple #[.agg (cells21 m.kind (nums m) m.err m.name m.text (.slice ba m.bats.length bc) (.slice ea m.ents.length ec) (.slice ia m.ints.length ic)), .bool (decide (its = l))]) (by exact results_cell_slot Tryd.results28 _ _ w.heap.size _ rfl HR2.out rfl rfl) rfl ⟨ba, bc, ea, ec, ia, ⟨ic, ?_⟩, ?_, ?_, ?_, ?_⟩
  · rw [HF.out]
  · exact HK.out.1
  · rw [HF.out]; exact HK.out.2.1
  · rw [HF.out]; exact HK.out.2.2.1
  · rw [HF.out]; exact HK.out.2.2.2

set_option maxHeartbeats 3200000 in
theorem mb_er {w : World} (l : List UInt8) (hl : l.length ≤ maxLen) (hT : Tab w) (hD : doneS (partsS ⟨l, false⟩).2 = true) (hE : (rightM (partsS ⟨l, false⟩).1).2 ≠ 0) : Calls Tryd.prog 28 #[.string (strOf l)] w fun e w' => ∃ ba bc ea ec ia ic, e = .returned (.tuple #[.agg (cells21 (bodyR l).1.kind (nums (bodyR l).1) (bodyR l).1.err (bodyR l).1.name (bodyR l).1.text (.slice ba (bodyR l).1.bats.length bc) (.slice ea (bodyR l).1.ents.length ec) (.slice ia (bodyR l).1.ints.length ic)), .bool (bodyR l).2]) ∧ Below w.heap.size w w' ∧ BatsHi w.heap.size w' ba (bodyR l).1.bats ∧ EntsHi w.heap.size w' ea (bodyR l).1.ents ∧ IntsHi w.heap.size w' ia (bodyR l).1.ints := by
  have hw2 := hT.2
  have HN : Hid (bodyR l = ((partsS ⟨l, false⟩).1, doneS (partsS ⟨l, false⟩).2 && (decide ((rightM (partsS ⟨l, false⟩).1).2 = 0) && decide ((rightM (partsS ⟨l, false⟩).1).1 = l)))) := rfl
  have hok := partsS_ok ⟨l, false⟩
  have HP0 : Hid (Pd ((w.alloc (.cells #[.int .i64 0, .int .i64 0, .int .i64 0, .int .i64 0, .int .i64 0, .int .i64 0, .int .i64 0, .int .i64 0, .int .i64 0, .int .i64 0, .int .i64 0, .int .i64 0, .int .i64 0, .int .i64 0, .int .i64 0, .int .i64 0, .string ⟨#[]⟩, .string ⟨#[]⟩, .slice none 0 0, .slice none 0 0, .slice none 0 0] 27)).alloc (.cells #[.string (strOf l), .bool false] 80)) (w.heap.size + 1) ⟨l, false⟩) := ⟨heap_alloc2_new w _ _, hl⟩
  have H39 := hid (readParts_any HP0.out)
  have H38 := hid (fun W => read_any l W)
  have HT := hid hT
  clear hl hT
  generalize bodyR l = BR at *
  generalize partsS ⟨l, false⟩ = PS at *
  obtain ⟨m, s1⟩ := PS
  simp only at *
  have hR := rightM_len m
  have H21 : Hid (∀ (W : World) (ba : Option Addr) (bc : Nat) (ea : Option Addr) (ec : Nat) (ia : Option Addr) (ic : Nat), Here W m ba ea ia → Tab W → Calls Tryd.prog 21 #[.agg (cells21 m.kind (nums m) m.err m.name m.text (.slice ba m.bats.length bc) (.slice ea m.ents.length ec) (.slice ia m.ints.length ic))] W fun e w' => e = .returned (.tuple #[.string (strOf (rightM m).1), .int .i64 (rightM m).2]) ∧ Below W.heap.size W w') := fun W ba bc ea ec ia ic h1 h2 => rightBody_any m ba bc ea ec ia ic hok h1 h2
  generalize rightM m = RM at *
  obtain ⟨its, er⟩ := RM
  simp only at *
  go_enter Tryd.func28, Tryd.ntmps28
  go_wp2_with (go_at_call 38; refine (H38.out _).mono ?_; rintro e w1 ⟨rfl, rfl⟩)
  refine H39.out.mono ?_
  rintro e w2 ⟨ba, bc, ea, ec, ia, ic, rfl, hr2, hg2, hb2, he2, hi2⟩
  have hs2 : w.heap.size + 2 ≤ w2.heap.size := by have := hg2.size; simpa using this
  have hst : Hid (((w2.alloc (.cells #[.int .i64 0, .int .i64 0, .int .i64 0, .int .i64 0, .int .i64 0, .int .i64 0, .int .i64 0, .int .i64 0, .int .i64 0, .int .i64 0, .int .i64 0, .int .i64 0, .int .i64 0, .int .i64 0, .int .i64 0, .int .i64 0, .string ⟨#[]⟩, .string ⟨#[]⟩, .slice none 0 0, .slice none 0 0, .slice none 0 0] 27)).setRow w2.heap.size (cells21 m.kind (nums m) m.err m.name m.text (.slice ba m.bats.length bc) (.slice ea m.ents.length ec) (.slice ia m.ints.length ic))) = (w2.alloc (.cells (cells21 m.kind (nums m) m.err m.name m.text (.slice ba m.bats.length bc) (.slice ea m.ents.length ec) (.slice ia m.ints.length ic)) 27))) := World.setRow_alloc_new _ _ _ _
  have HA := hid (And.intro hr2 (And.intro hg2 (And.intro hb2 (And.intro he2 hi2))))
  have BX := hid (heap_alloc_new w2 (.cells (cells21 m.kind (nums m) m.err m.name m.text (.slice ba m.bats.length bc) (.slice ea m.ents.length ec) (.slice ia m.ints.length ic)) 27))
  have HTW : Hid (Tab (w2.alloc (.cells (cells21 m.kind (nums m) m.err m.name m.text (.slice ba m.bats.length bc) (.slice ea m.ents.length ec) (.slice ia m.ints.length ic)) 27))) := by
    have h1 : Tab ((w.alloc (.cells #[.int .i64 0, .int .i64 0, .int .i64 0, .int .i64 0, .int .i64 0, .int .i64 0, .int .i64 0, .int .i64 0, .int .i64 0, .int .i64 0, .int .i64 0, .int .i64 0, .int .i64 0, .int .i64 0, .int .i64 0, .int .i64 0, .string ⟨#[]⟩, .string ⟨#[]⟩, .slice none 0 0, .slice none 0 0, .slice none 0 0] 27)).alloc (.cells #[.string (strOf l), .bool false] 80)) := HT.out.under (((Below.refl _ w).alloc (Nat.le_refl _) _).alloc (by simp) _) hw2
    exact (h1.grown hg2 (by omega)).under ((Below.refl _ _).alloc (Nat.le_refl _) _) (by omega)
  have HH : Hid (Here (w2.alloc (.cells (cells21 m.kind (nums m) m.err m.name m.text (.slice ba m.bats.length bc) (.slice ea m.ents.length ec) (.slice ia m.ints.length ic)) 27)) m ba ea ia) := by
    have h0 : Here w2 m ba ea ia := ⟨hb2.at, he2.at, hi2.at⟩
    exact h0.under ((Below.refl _ _).alloc (Nat.le_refl _) _)
  clear hr2 hg2 hb2 he2 hi2
  go_wp2_with (first | (refine wpList_store_row rfl 27 _ _ rfl w2.heap.size (cells21 m.kind (nums m) m.err m.name m.text (.slice ba m.bats.length bc) (.slice ea m.ents.length ec) (.slice ia m.ints.length ic)) rfl rfl 27 _ (heap_alloc_new w2 _) size27 rfl (cells21_one _ _ _ _ _ _ _ _ rfl rfl rfl) ?_; rw [hst.out]) | (refine wpList_load_row rfl 27 _ rfl w2.heap.size rfl 27 (cells21 m.kind (nums m) m.err m.name m.text (.slice ba m.bats.length bc) (.slice ea m.ents.length ec) (.slice ia m.ints.length ic)) (0, 0) _ BX.out Tryd.underlying27 rfl size27 ?_) | (go_at_call 21; refine (H21.out _ ba bc ea ec ia ic HH.out HTW.out).mono ?_; rintro e w3 ⟨rfl, hb3⟩))
  have HP3 : Hid (Pd w3 (w.heap.size + 1) s1) := HA.out.1.kept ((hb3.block _ (by simp; omega)).trans (Below.heap_alloc w2 _ _ (by omega)))
  have BX3 : Hid (w3.heap[w2.heap.size]? = some (.cells (cells21 m.kind (nums m) m.err m.name m.text (.slice ba m.bats.length bc) (.slice ea m.ents.length ec) (.slice ia m.ints.length ic)) 27)) := (hb3.block _ (by simp)).trans BX.out
  have OX3 : Hid (w3.heap[w.heap.size]? = some (.cells #[.int .i64 0, .int .i64 0, .int .i64 0, .int .i64 0, .int .i64 0, .int .i64 0, .int .i64 0, .int .i64 0, .int .i64 0, .int .i64 0, .int .i64 0, .int .i64 0, .int .i64 0, .int .i64 0, .int .i64 0, .int .i64 0, .string ⟨#[]⟩, .string ⟨#[]⟩, .slice none 0 0, .slice none 0 0, .slice none 0 0] 27)) := by
    have h1 : w2.heap[w.heap.size]? = some (.cells #[.int .i64 0, .int .i64 0, .int .i64 0, .int .i64 0, .int .i64 0, .int .i64 0, .int .i64 0, .int .i64 0, .int .i64 0, .int .i64 0, .int .i64 0, .int .i64 0, .int .i64 0, .int .i64 0, .int .i64 0, .int .i64 0, .string ⟨#[]⟩, .string ⟨#[]⟩, .slice none 0 0, .slice none 0 0, .slice none 0 0] 27) := (HA.out.2.1.block w.heap.size (by simp; omega) (fun e => by have := Option.some.inj e; omega)).trans (by rw [Below.heap_alloc _ _ _ (by simp)]; exact heap_alloc_new w _)
    exact (hb3.block _ (by simp; omega)).trans ((Below.heap_alloc w2 _ _ (by omega)).trans h1)
  have H40 : Hid (∀ W : World, W.heap = w3.heap → Calls Tryd.prog 40 #[.pointer (some ⟨w.heap.size + 1, 0, none⟩)] W fun e w' => e = .returned (.bool (doneS s1)) ∧ W = w') := fun W h => pdone_any (HP3.out.kept (by rw [h]))
  have HK : Hid (Below w.heap.size w (w3.drew.setRow w.heap.size (cells21 m.kind (nums m) m.err m.name m.text (.slice ba m.bats.length bc) (.slice ea m.ents.length ec) (.slice ia m.ints.length ic))) ∧ BatsHi w.heap.size (w3.drew.setRow w.heap.size (cells21 m.kind (nums m) m.err m.name m.text (.slice ba m.bats.length bc) (.slice ea m.ents.length ec) (.slice ia m.ints.length ic))) ba m.bats ∧ EntsHi w.heap.size (w3.drew.setRow w.heap.size (cells21 m.kind (nums m) m.err m.name m.text (.slice ba m.bats.length bc) (.slice ea m.ents.length ec) (.slice ia m.ints.length ic))) ea m.ents ∧ IntsHi w.heap.size (w3.drew.setRow w.heap.size (cells21 m.kind (nums m) m.err m.name m.text (.slice ba m.bats.length bc) (.slice ea m.ents.length ec) (.slice ia m.ints.length ic))) ia m.ints) := by
    obtain ⟨a1, a2, a3, a4, a5⟩ := HA.out
    have hs3 := hb3.size
    simp at hs3
    have z : ((w.alloc (.cells #[.int .i64 0, .int .i64 0, .int .i64 0, .int .i64 0, .int .i64 0, .int .i64 0, .int .i64 0, .int .i64 0, .int .i64 0, .int .i64 0, .int .i64 0, .int .i64 0, .int .i64 0, .int .i64 0, .int .i64 0, .int .i64 0, .string ⟨#[]⟩, .string ⟨#[]⟩, .slice none 0 0, .slice none 0 0, .slice none 0 0] 27)).alloc (.cells #[.string (strOf l), .bool false] 80)).heap.size = w.heap.size + 2 := by simp
    rw [z] at a3 a4 a5
    have kp : ∀ j, w.heap.size + 2 ≤ j → j < w2.heap.size → (w3.drew.setRow w.heap.size (cells21 m.kind (nums m) m.err m.name m.text (.slice ba m.bats.length bc) (.slice ea m.ents.length ec) (.slice ia m.ints.length ic))).heap[j]? = w2.heap[j]? := fun j h1 h2 => by
      rw [setRow_other _ _ _ _ (by omega)]
      show w3.heap[j]? = _
      rw [hb3.block j (by simp; omega), Below.heap_alloc w2 _ j h2]
    have sz : w2.heap.size ≤ (w3.drew.setRow w.heap.size (cells21 m.kind (nums m) m.err m.name m.text (.slice ba m.bats.length bc) (.slice ea m.ents.length ec) (.slice ia m.ints.length ic))).heap.size := by rw [setRow_size]; show _ ≤ w3.heap.size; omega
    refine ⟨?_, (a3.keep kp sz).low (by omega), (a4.keep kp sz).low (by omega), (a5.keep kp sz).low (by omega)⟩
    have b1 : Below w.heap.size w w2 := by
      refine ⟨a2.os, a2.tape, a2.output, by omega, fun k hk => ?_⟩
      rw [a2.block k (by simp; omega) (fun e => by have := Option.some.inj e; omega), Below.heap_alloc _ _ k (by simp; omega), Below.heap_alloc _ _ k hk]
    have b2 : Below w.heap.size w w3 := (b1.alloc (by omega) _).trans (hb3.mono (by simp; omega))
    exact below_setRow b2.drew (Nat.le_refl _) _
  have htl : ∀ x y : List UInt8, ((strOf x).toList == (strOf y).toList) = decide (x = y) := fun x y => by
    rw [Lib.toList_data, Lib.toList_data, strOf_data, strOf_data]
    by_cases h : x = y <;> simp [h]
  have OX4 : Hid (w3.drew.heap[w.heap.size]? = some (.cells #[.int .i64 0, .int .i64 0, .int .i64 0, .int .i64 0, .int .i64 0, .int .i64 0, .int .i64 0, .int .i64 0, .int .i64 0, .int .i64 0, .int .i64 0, .int .i64 0, .int .i64 0, .int .i64 0, .int .i64 0, .int .i64 0, .string ⟨#[]⟩, .string ⟨#[]⟩, .slice none 0 0, .slice none 0 0, .slice none 0 0] 27)) := OX3.out
  have C1 : Hid ((cells21 m.kind (nums m) m.err m.name m.text (.slice ba m.bats.length bc) (.slice ea m.ents.length ec) (.slice ia m.ints.length ic)).all (·.oneCell') = true) := cells21_one _ _ _ _ _ _ _ _ rfl rfl rfl
  have HS2 : Hid ((w3.drew.setRow w.heap.size (cells21 m.kind (nums m) m.err m.name m.text (.slice ba m.bats.length bc) (.slice ea m.ents.length ec) (.slice ia m.ints.length ic))).heap[w2.heap.size]? = some (.cells (cells21 m.kind (nums m) m.err m.name m.text (.slice ba m.bats.length bc) (.slice ea m.ents.length ec) (.slice ia m.ints.length ic)) 27)) := (setRow_other _ _ _ _ (by omega)).trans BX3.out
  have HR2 : Hid ((w3.drew.setRow w.heap.size (cells21 m.kind (nums m) m.err m.name m.text (.slice ba m.bats.length bc) (.slice ea m.ents.length ec) (.slice ia m.ints.length ic))).heap[w.heap.size]? = some (.cells (cells21 m.kind (nums m) m.err m.name m.text (.slice ba m.bats.length bc) (.slice ea m.ents.length ec) (.slice ia m.ints.length ic)) 27)) := setRow_heap _ _ _ _ 27 (0, 0) OX4.out
  clear HA BX HTW HH hst hb3 HP3 H39 H38 H21 HT HP0
  generalize hbq : w2.heap.size = b at *
  clear hbq
  rw [hD] at H40
  have HF : Hid (BR = (m, false)) := by show _ = _; rw [HN.out]; simp [hE]
  have hne : (er == 0) = false := by simp [hE]
  clear hE
  refine wp_region_held_drew (S := fun W => W.heap[b]? = some (.cells (cells21 m.kind (nums m) m.err m.name m.text (.slice ba m.bats.length bc) (.slice ea m.ents.length ec) (.slice ia m.ints.length ic)) 27)) (by kernel_rfl) BX3.out (fun hHeld => ?_)
  refine wpAnyH_take (i := 0) (v := .agg (cells21 m.kind (nums m) m.err m.name m.text (.slice ba m.bats.length bc) (.slice ea m.ents.length ec) (.slice ia m.ints.length ic))) rfl (by kernel_rfl) (by kernel_rfl) (by kernel_rfl) (fun _ _ _ h => h) (yieldsIf_load27 (by kernel_rfl) _ rfl b rfl (cells21 m.kind (nums m) m.err m.name m.text (.slice ba m.bats.length bc) (.slice ea m.ents.length ec) (.slice ia m.ints.length ic)) (fun _ h => h) rfl) hHeld ?_
  simp only [Act.put, List.setIfInBounds_toArray, List.set_cons_zero, List.set_cons_succ]
  refine wpAnyH_take (i := 1) (v := .pointer (some ⟨w.heap.size + 1, 0, none⟩)) rfl (by kernel_rfl) (by kernel_rfl) (by kernel_rfl) (fun _ _ _ h => h) (Or.inl ⟨by kernel_rfl, fun W hW => by go_simp⟩) hHeld ?_
  simp only [Act.put, List.setIfInBounds_toArray, List.set_cons_zero, List.set_cons_succ]
  refine wpAnyH_ready (rs := [2]) (by kernel_rfl) (by simp) ?_
  refine AllReadyH.cons rfl (fun K hK => ?_) AllReadyH.nil
  refine step_call40 rfl 18 rfl (.pointer (some ⟨w.heap.size + 1, 0, none⟩)) (by simp) (H40.out _ rfl) ?_
  rintro e w4 ⟨rfl, rfl⟩
  refine ⟨_, rfl, ?_⟩
  refine hK.out _ _ hHeld (fun _ => ?_)
  simp only [Act.put, List.setIfInBounds_toArray, List.set_cons_zero, List.set_cons_succ]
  clear hK K
  refine wpAnyH_take (i := 3) (v := .bool true) rfl (by kernel_rfl) (by kernel_rfl) (by kernel_rfl) (fun _ _ _ h => h) (Or.inl ⟨by kernel_rfl, fun W hW => by go_simp⟩) hHeld ?_
  simp only [Act.put, List.setIfInBounds_toArray, List.set_cons_zero, List.set_cons_succ]
  refine wpAnyH_take (i := 4) (v := .int .i64 er) rfl (by kernel_rfl) (by kernel_rfl) (by kernel_rfl) (fun _ _ _ h => h) (Or.inl ⟨by kernel_rfl, fun W hW => by go_simp⟩) hHeld ?_
  simp only [Act.put, List.setIfInBounds_toArray, List.set_cons_zero, List.set_cons_succ]
  refine wpAnyH_take (i := 5) (v := .bool false) rfl (by kernel_rfl) (by kernel_rfl) (by kernel_rfl) (fun _ _ _ h => h) (Or.inl ⟨by kernel_rfl, fun W hW => by go_simp⟩) hHeld ?_
  simp only [Act.put, List.setIfInBounds_toArray, List.set_cons_zero, List.set_cons_succ]
  refine wpAnyH_take (i := 6) (v := .bool false) rfl (by kernel_rfl) (by kernel_rfl) (by kernel_rfl) (fun _ _ _ h => h) (Or.inl ⟨by kernel_rfl, fun W hW => by go_simp⟩) hHeld ?_
  simp only [Act.put, List.setIfInBounds_toArray, List.set_cons_zero, List.set_cons_succ]
  refine wpAnyH_take (i := 7) (v := .bool false) rfl (by kernel_rfl) (by kernel_rfl) (by kernel_rfl) (fun _ _ _ h => h) (Or.inl ⟨by kernel_rfl, fun W hW => by go_simp⟩) hHeld ?_
  simp only [Act.put, List.setIfInBounds_toArray, List.set_cons_zero, List.set_cons_succ]
  refine wpAnyH_take (i := 8) (v := undef) rfl (by kernel_rfl) (by kernel_rfl) (by kernel_rfl) (fun _ _ _ h => h) (Or.inr ⟨by kernel_rfl, rfl⟩) hHeld ?_
  simp only [Act.put, List.setIfInBounds_toArray, List.set_cons_zero, List.set_cons_succ]
  refine wpAnyH_take (i := 9) (v := undef) rfl (by kernel_rfl) (by kernel_rfl) (by kernel_rfl) (fun _ _ _ h => h) (Or.inr ⟨by kernel_rfl, rfl⟩) hHeld ?_
  simp only [Act.put, List.setIfInBounds_toArray, List.set_cons_zero, List.set_cons_succ]
  refine wpAnyH_take (i := 10) (v := undef) rfl (by kernel_rfl) (by kernel_rfl) (by kernel_rfl) (fun _ _ _ h => h) (Or.inr ⟨by kernel_rfl, rfl⟩) hHeld ?_
  simp only [Act.put, List.setIfInBounds_toArray, List.set_cons_zero, List.set_cons_succ]
  refine wpAnyH_take (i := 11) (v := .bool false) rfl (by kernel_rfl) (by kernel_rfl) (by kernel_rfl) (fun _ _ _ h => h) (Or.inl ⟨by kernel_rfl, fun W hW => by go_simp⟩) hHeld ?_
  simp only [Act.put, List.setIfInBounds_toArray, List.set_cons_zero, List.set_cons_succ]
  refine wpAnyH_ready (rs := [12]) (by kernel_rfl) (by simp) ?_
  refine ready_store27 (o := ⟨none, .store 27 (.tmp 2) (.tmp 17), 0, "read.go:13", #[⟨0, .data⟩, ⟨7, .chain⟩, ⟨0, .phase⟩, ⟨1, .textOnly .lateStores⟩, ⟨2, .textOnly .lateStoresUnsure⟩, ⟨3, .textOnly .lateStores⟩, ⟨4, .textOnly .lateStores⟩, ⟨5, .textOnly .lateStores⟩, ⟨6, .textOnly .lateStores⟩, ⟨7, .textOnly .lateStores⟩, ⟨8, .textOnly .lateStores⟩, ⟨9, .textOnly .lateStores⟩, ⟨10, .textOnly .lateStores⟩, ⟨11, .textOnly .lateStores⟩], none⟩) (by kernel_rfl) rfl 2 17 rfl w.heap.size (cells21 m.kind (nums m) m.err m.name m.text (.slice ba m.bats.length bc) (.slice ea m.ents.length ec) (.slice ia m.ints.length ic)) #[.int .i64 0, .int .i64 0, .int .i64 0, .int .i64 0, .int .i64 0, .int .i64 0, .int .i64 0, .int .i64 0, .int .i64 0, .int .i64 0, .int .i64 0, .int .i64 0, .int .i64 0, .int .i64 0, .int .i64 0, .int .i64 0, .string ⟨#[]⟩, .string ⟨#[]⟩, .slice none 0 0, .slice none 0 0, .slice none 0 0] (by simp) (by simp) OX4.out rfl rfl C1.out HS2.out (fun hHeld2 => ?_)
  refine wpAnyH_ready (rs := [13]) (by kernel_rfl) (by simp) ?_
  refine AllReadyH.cons (o := ⟨some 3, .assign (.tmp 28), 4, "read.go:13", #[⟨11, .data⟩, ⟨12, .chain⟩, ⟨0, .phase⟩, ⟨1, .phase⟩, ⟨2, .phase⟩, ⟨3, .phase⟩, ⟨4, .phase⟩, ⟨5, .phase⟩, ⟨6, .phase⟩, ⟨7, .phase⟩, ⟨8, .phase⟩, ⟨9, .phase⟩, ⟨10, .phase⟩, ⟨11, .phase⟩, ⟨12, .phase⟩], none⟩) (by kernel_rfl) ?_ ?_
  rotate_left 1
  · exact AllReadyH.nil
  intro K hK
  go_simp
  refine hK.out _ _ hHeld2 (fun _ => ?_)
  clear hK K
  refine wpAnyH_done (by kernel_rfl) ?_ _
  go_wp2
  refine bodyPost_ret (v := .tuple #[.agg (cells21 m.kind (nums m) m.err m.name m.text (.slice ba m.bats.length bc) (.slice ea m.ents.length ec) (.slice ia m.ints.length ic)), .bool false]) (by exact results_cell_slot Tryd.results28 _ _ w.heap.size _ rfl HR2.out rfl rfl) rfl ⟨ba, bc, ea, ec, ia, ic, ?_, ?_, ?_, ?_, ?_⟩
  · rw [HF.out]
  · exact HK.out.1
  · rw [HF.out]; exact HK.out.2.1
  · rw [HF.out]; exact HK.out.2.2.1
  · rw [HF.out]; exact HK.out.2.2.2

theorem mbody_any {w : World} (l : List UInt8) (hl : l.length ≤ maxLen) (hT : Tab w) : Calls Tryd.prog 28 #[.string (strOf l)] w fun e w' => ∃ ba bc ea ec ia ic, e = .returned (.tuple #[.agg (cells21 (bodyR l).1.kind (nums (bodyR l).1) (bodyR l).1.err (bodyR l).1.name (bodyR l).1.text (.slice ba (bodyR l).1.bats.length bc) (.slice ea (bodyR l).1.ents.length ec) (.slice ia (bodyR l).1.ints.length ic)), .bool (bodyR l).2]) ∧ Below w.heap.size w w' ∧ BatsHi w.heap.size w' ba (bodyR l).1.bats ∧ EntsHi w.heap.size w' ea (bodyR l).1.ents ∧ IntsHi w.heap.size w' ia (bodyR l).1.ints := by
  cases hD : doneS (partsS ⟨l, false⟩).2 with
  | false => exact mb_no l hl hT hD
  | true =>
    by_cases hE : (rightM (partsS ⟨l, false⟩).1).2 = 0
    · exact mb_ok l hl hT hD hE
    · exact mb_er l hl hT hD hE
end Go.Proofs.YtocdlaoklagdoaaDoor
