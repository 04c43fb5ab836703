/- All groups in memory; Find; what there is. -/
import Derived.Test.YtdnpbhijjmlecaaG16
namespace Go.Proofs.Ytdnpbhijjmlecaa
open Go.RowKit Go.Maps
open Go.WideMaps (keyOf_string_mk)
set_option maxRecDepth 100000
set_option linter.unusedSimpArgs false
set_option linter.unusedVariables false

/-- A group that is there: its name, its block, what it is, its blocks. -/
structure En where
  name : List UInt8
  at_ : Nat
  g : Gr
  own : Nat → Prop
def Rg (v : Value) : Option (DataW Value × List MemPlace) :=
  match v with
  | .pointer _ => some (.held v, [])
  | _ => none
theorem Rg_inv {v : Value} {y : DataW Value × List MemPlace} (h : Rg v = some y) : y = (.held v, []) := by
  unfold Rg at h
  split at h
  · simpa using h.symm
  · cases h
def ptr (k : Nat) : Value := .pointer (some ⟨k, 0, none⟩)
def gmap (es : List En) : DataW Value := .map (es.map fun e => (Lit.string e.name, .held (ptr e.at_)))
def findE (es : List En) (n : List UInt8) : Option En := es.find? fun e => e.name == n
def ptrE (es : List En) (n : List UInt8) : Value := match findE es n with | some e => ptr e.at_ | none => .pointer none
theorem gmap_size (es : List En) : Maps.size (gmap es) = es.length := by simp [gmap, Maps.size]
theorem gk (a b : List UInt8) : (Lit.string a).sameKey (.string b) = (a == b) := rfl
theorem find_gmap (n : List UInt8) : ∀ es : List En,
    (es.map fun e => (Lit.string e.name, (DataW.held (ptr e.at_) : DataW Value))).find? (fun p => p.1.sameKey (.string n)) = (findE es n).map fun e => (Lit.string e.name, .held (ptr e.at_))
  | [] => rfl
  | p :: r => by
    have ih := find_gmap n r
    unfold findE at ih ⊢
    simp only [List.map_cons, List.find?_cons, gk]
    cases p.name == n
    · exact ih
    · rfl
theorem gmap_atKey (es : List En) (n : List UInt8) : (gmap es).atKey (.string n) (.held (.pointer none)) = .held (ptrE es n) := by
  unfold DataW.atKey gmap
  simp only [find_gmap]
  unfold ptrE
  cases findE es n <;> rfl
theorem gmap_has (n : List UInt8) (es : List En) : Maps.has (gmap es) (.string n) = (findE es n).isSome := by
  unfold findE gmap Maps.has
  induction es with
  | nil => rfl
  | cons p r ih =>
    simp only [List.map_cons, List.any_cons, gk, List.find?_cons]
    cases p.name == n
    · simpa only [Bool.false_or] using ih
    · rfl
def insE (x : En) : List En → List En
  | [] => [x]
  | y :: r => if bytesBefore x.name y.name then x :: y :: r else y :: insE x r
theorem insert_gmap (x : En) : ∀ es : List En,
    DataW.insert (Lit.string x.name, (DataW.held (ptr x.at_) : DataW Value)) (es.map fun e => (Lit.string e.name, .held (ptr e.at_))) = (insE x es).map fun e => (Lit.string e.name, .held (ptr e.at_))
  | [] => rfl
  | p :: r => by
    have ih := insert_gmap x r
    by_cases hb : bytesBefore x.name p.name = true
    · simp only [List.map_cons, DataW.insert, insE, Lit.before, hb, if_true]
    · simp only [List.map_cons, DataW.insert, insE, Lit.before, hb]
      simp only [Bool.false_eq_true, if_false, List.map_cons, ih]
theorem filter_gmap (n : List UInt8) : ∀ es : List En, (∀ e ∈ es, e.name ≠ n) →
    (es.map fun e => (Lit.string e.name, (DataW.held (ptr e.at_) : DataW Value))).filter (fun p => !p.1.sameKey (.string n)) = es.map fun e => (Lit.string e.name, .held (ptr e.at_))
  | [], _ => rfl
  | p :: r, h => by
    have ih := filter_gmap n r (fun e he => h e (List.mem_cons_of_mem _ he))
    have hp := h p (List.mem_cons_self ..)
    simp only [List.map_cons, List.filter_cons, gk, ih]
    rw [if_pos (by simpa using hp)]
theorem gmap_put (es : List En) (x : En) (h : ∀ e ∈ es, e.name ≠ x.name) : (gmap es).put (.string x.name) (.held (ptr x.at_)) = gmap (insE x es) := by
  show DataW.map (DataW.insert (.string x.name, .held (ptr x.at_)) ((es.map fun e => (Lit.string e.name, (DataW.held (ptr e.at_) : DataW Value))).filter (fun p => !p.1.sameKey (.string x.name)))) = _
  rw [filter_gmap _ _ h, insert_gmap x]
  rfl
theorem mem_insE (x p : En) : ∀ es : List En, p ∈ insE x es ↔ p = x ∨ p ∈ es
  | [] => by simp [insE]
  | y :: r => by
    unfold insE
    split
    · simp
    · simp [mem_insE x p r]
      constructor
      · rintro (h | h | h) <;> simp [h]
      · rintro (h | h | h) <;> simp [h]
theorem len_insE (x : En) : ∀ es : List En, (insE x es).length = es.length + 1
  | [] => rfl
  | y :: r => by
    unfold insE
    split
    · rfl
    · simp [len_insE x r]
theorem pair_insE (x : En) (T : En → En → Prop) (hs : ∀ p q, T p q → T q p) : ∀ es : List En, es.Pairwise T → (∀ p ∈ es, T x p) → (insE x es).Pairwise T
  | [], _, _ => by simp [insE]
  | y :: r, h, hx => by
    unfold insE
    split
    · exact List.Pairwise.cons hx h
    · have h' := List.pairwise_cons.1 h
      refine List.Pairwise.cons (fun p hp => ?_) (pair_insE x T hs r h'.2 (fun p hp => hx p (List.mem_cons_of_mem _ hp)))
      rcases (mem_insE x p r).1 hp with rfl | hp
      · exact hs _ _ (hx y (by simp))
      · exact h'.1 p hp
theorem abs_insE (x : En) : ∀ es : List En, (insE x es).map (fun e => (e.name, e.g)) = insG (x.name, x.g) (es.map fun e => (e.name, e.g))
  | [] => rfl
  | y :: r => by
    unfold insE insG
    simp only [List.map_cons]
    split
    · rfl
    · simp [abs_insE x r]
theorem get_abs (n : List UInt8) : ∀ es : List En, getG (es.map fun e => (e.name, e.g)) n = (findE es n).map (·.g)
  | [] => rfl
  | y :: r => by
    have ih := get_abs n r
    unfold getG findE at *
    simp only [List.map_cons, List.find?_cons]
    cases y.name == n
    · exact ih
    · rfl
theorem findE_mem {es : List En} {n : List UInt8} {e : En} (h : findE es n = some e) : e ∈ es ∧ e.name = n := by
  unfold findE at h
  exact ⟨List.mem_of_find?_eq_some h, by have := List.find?_some h; simpa using this⟩
theorem findE_none {es : List En} {n : List UInt8} (h : findE es n = none) : ∀ e ∈ es, e.name ≠ n := by
  unfold findE at h
  intro e he
  have := List.find?_eq_none.1 h e he
  simpa using this

structure AllC (w : World) (q b : Nat) (es : List En) (S : Gs) : Prop where
  cells : w.heap[q]? = some (.cells #[.map (some b), .int .i64 S.epoch] 54 (0, 0))
  bmap : w.ownsMap Try.prog 9 Rg b es.length (gmap es)
  abs : S.gs = es.map fun e => (e.name, e.g)
  each : ∀ e ∈ es, GrM w e.own e.at_ e.g ∧ ∀ k, e.own k → k ≠ q ∧ k ≠ b
  apart : es.Pairwise fun d e => ∀ k, d.own k → ¬ e.own k
def AllM (w : World) (Z : Nat → Prop) (q : Nat) (S : Gs) : Prop := ∃ b es, AllC w q b es S ∧ Z q ∧ Z b ∧ (∀ e ∈ es, ∀ k, e.own k → Z k) ∧ ∀ k, Z k → k < w.heap.size
section
variable {w : World} {q b : Nat} {es : List En} {S : Gs}
theorem AllC.qlt (h : AllC w q b es S) : q < w.heap.size := (Array.getElem?_eq_some_iff.1 h.cells).1
theorem AllC.blt (h : AllC w q b es S) : b < w.heap.size := h.bmap.lt
theorem AllC.ne_qb (h : AllC w q b es S) : q ≠ b := fun e => by
  obtain ⟨es, clock, hm, r⟩ := h.bmap
  rw [← e, h.cells] at hm; cases hm
theorem AllC.under (h : AllC w q b es S) {w1 : World} (hb : Below w.heap.size w w1) : AllC w1 q b es S := by
  refine ⟨(hb.block q h.qlt).trans h.cells, ?_, h.abs, fun e he => ⟨(h.each e he).1.under hb, (h.each e he).2⟩, h.apart⟩
  obtain ⟨xs, clock, hm, r⟩ := h.bmap
  exact ⟨xs, clock, (hb.block b h.blt).trans hm, r⟩
theorem AllC.c0 (h : AllC w q b es S) : w.cell? ⟨q, 0, none⟩ = some (.map (some b)) := cell_blk h.cells 0 _ rfl
theorem AllC.c1 (h : AllC w q b es S) : w.cell? ⟨q, 1, none⟩ = some (.int .i64 S.epoch) := cell_blk h.cells 1 _ rfl
theorem AllC.fz (h : AllC w q b es S) (j : Nat) : w.frozen? ⟨q, j, none⟩ = false := frz_blk h.cells j
theorem AllC.get (h : AllC w q b es S) (n : List UInt8) : getG S.gs n = (findE es n).map (·.g) := by rw [h.abs]; exact get_abs n es
theorem AllC.look_ok (h : AllC w q b es S) (n : ByteArray) (hn : n.size ≤ maxLen) :
    (Instr.lookup 52 (.map (some b)) (.string n) true).run Try.prog w = .ok (.tuple #[ptrE es n.data.toList, .bool (findE es n.data.toList).isSome]) w := by
  have hkey := keyOf_string_mk Try.underlying9 hn
  obtain ⟨v, ps, hrun, hv⟩ := World.ownsMap.look_ok h.bmap law9 Try.underlying52 (zero73 w) (zd := .held (.pointer none)) (zp := []) rfl hkey
  rw [gmap_atKey] at hv
  have hv := Rg_inv hv
  simp only [Prod.mk.injEq, DataW.held.injEq] at hv
  rw [hrun, ← hv.1, gmap_has]
end
theorem AllM.under {w w1 : World} {Z : Nat → Prop} {q : Nat} {S : Gs} (h : AllM w Z q S) (hb : Below w.heap.size w w1) : AllM w1 Z q S := by
  obtain ⟨b, es, h1, h2, h3, h4, h5⟩ := h
  exact ⟨b, es, h1.under hb, h2, h3, h4, fun k hk => Nat.lt_of_lt_of_le (h5 k hk) hb.size⟩
theorem AllM.kept {w w1 : World} {Z : Nat → Prop} {q : Nat} {S : Gs} (h : AllM w Z q S) (hz : ∀ k, Z k → w1.heap[k]? = w.heap[k]?) (hs : w.heap.size ≤ w1.heap.size) : AllM w1 Z q S := by
  obtain ⟨b, es, h1, h2, h3, h4, h5⟩ := h
  refine ⟨b, es, ⟨(hz q h2).trans h1.cells, ?_, h1.abs, fun e he => ⟨(h1.each e he).1.kept (fun k hk => hz k (h4 e he k hk)) hs, (h1.each e he).2⟩, h1.apart⟩, h2, h3, h4, fun k hk => Nat.lt_of_lt_of_le (h5 k hk) hs⟩
  obtain ⟨xs, clock, hm, r⟩ := h1.bmap
  exact ⟨xs, clock, (hz b h3).trans hm, r⟩
/-- The group of nothing. -/
theorem zero_group {w : World} {k : Nat} (h : w.heap[k]? = some (.cells #[.int .i64 0, .int .i64 0, .slice none 0 0, .slice none 0 0, .map none] 72 (0, 0))) : GrR w k (.slice none 0 0) (.slice none 0 0) (.map none) Gr.zero := by
  refine ⟨h, ⟨rfl, .inl ⟨rfl, rfl⟩⟩, IL.nil _, fun W hW n hn => ?_⟩
  exact Maps.look_nil true law3 Try.underlying70 (zero3 W) (keyOf_int_mk Try.underlying3 (wf_of hn))
set_option maxHeartbeats 800000 in
theorem find_any {w : World} {Z : Nat → Prop} {q : Nat} {S : Gs} (h : AllM w Z q S) (n : ByteArray) (hn : n.size ≤ maxLen) : Calls Try.prog 34 #[.pointer (some ⟨q, 0, none⟩), .string n] w fun e w' => ∃ k vm vp vo, e = .returned (ptr k) ∧ GrR w' k vm vp vo (foundG S.gs n.data.toList) ∧ Below w.heap.size w w' := by
  obtain ⟨b, es, h, _⟩ := h
  have c0 := h.c0
  have hl := h.look_ok n hn
  have hg := h.get n.data.toList
  have HH := hid h
  have HGT := hid hg
  clear h hg
  unfold ptrE at hl
  cases hf : findE es n.data.toList with
  | some x =>
    rw [hf] at hl HGT
    obtain ⟨hm, _⟩ := findE_mem hf
    obtain ⟨vm, vp, vo, hr⟩ := (HH.out.each x hm).1.read
    have HR := hid hr
    simp only [Option.isSome_some] at hl
    unfold ptr at hl
    clear hr hm hf
    go_enter Try.func34, Try.ntmps34
    go_wp2_with fail
    go_ret
    refine ⟨x.at_, vm, vp, vo, rfl, ?_, Below.refl _ _⟩
    unfold foundG
    rw [HGT.out]
    exact HR.out
  | none =>
    rw [hf] at hl HGT
    simp only [Option.isSome_none] at hl
    clear hf
    go_enter Try.func34, Try.ntmps34
    go_wp2_with fail
    go_ret
    refine ⟨w.heap.size, .slice none 0 0, .slice none 0 0, .map none, rfl, ?_, (Below.refl _ _).alloc (Nat.le_refl _) _⟩
    unfold foundG
    rw [HGT.out]
    exact zero_group (heap_alloc_new _ _)
theorem foundOk {N : Nat} {S : Gs} (h : GsOk N S) (n : List UInt8) : GrOk N (foundG S.gs n) := by
  unfold foundG
  cases hg : getG S.gs n with
  | none => exact zeroOk N
  | some x =>
    unfold getG at hg
    obtain ⟨p, hp, rfl⟩ := Option.map_eq_some_iff.1 hg
    exact (h.each p (List.mem_of_find?_eq_some hp)).1
theorem GrOk.m1000 {N : Nat} {x : Gr} (h : GrOk N x) : x.mem.length ≤ 1000 := by have := h.few; omega
theorem GrOk.id64 {N : Nat} {x : Gr} (h : GrOk N x) : ∀ y ∈ x.mem, I64 y.id := fun y hy => by have := h.mems y hy; have := h.ever; unfold I64; omega
set_option maxHeartbeats 800000 in
theorem gen_any {w : World} {Z : Nat → Prop} {q : Nat} {S : Gs} (h : AllM w Z q S) (n : ByteArray) (hn : n.size ≤ maxLen) : Calls Try.prog 18 #[.pointer (some ⟨q, 0, none⟩), .string n] w fun e w' => e = .returned (.int .i64 (foundG S.gs n.data.toList).gen) ∧ Below w.heap.size w w' := by
  have HF := hid (find_any h n hn)
  clear h
  go_enter Try.func18, Try.ntmps18
  go_wp2_with fail
  refine HF.out.mono ?_
  rintro e w1 ⟨k, vm, vp, vo, rfl, hr, hb1⟩
  have c0 := hr.c0
  unfold ptr
  go_wp2_with fail
  go_ret
  exact ⟨rfl, hb1⟩
set_option maxHeartbeats 800000 in
theorem epoch_any {w : World} {Z : Nat → Prop} {q : Nat} {S : Gs} (h : AllM w Z q S) : Calls Try.prog 19 #[.pointer (some ⟨q, 0, none⟩)] w fun e w' => e = .returned (.int .i64 S.epoch) ∧ w = w' := by
  obtain ⟨b, es, h, _⟩ := h
  have c1 := h.c1
  clear h
  go_enter Try.func19, Try.ntmps19
  go_wp2_with fail
  go_ret
  exact ⟨rfl, rfl⟩
set_option maxHeartbeats 800000 in
theorem Owner_any {w : World} {Z : Nat → Prop} {q : Nat} {S : Gs} {N : Nat} (h : AllM w Z q S) (hok : GsOk N S) (n : ByteArray) (hn : n.size ≤ maxLen) (part : Int) (hp : I64 part) : Calls Try.prog 20 #[.pointer (some ⟨q, 0, none⟩), .string n, .int .i64 part] w fun e w' => e = .returned (.int .i64 (ownerI (foundG S.gs n.data.toList) part)) ∧ Below w.heap.size w w' := by
  have HF := hid (find_any h n hn)
  have HK := hid (foundOk hok n.data.toList)
  clear h hok
  go_enter Try.func20, Try.ntmps20
  go_wp2_with fail
  refine HF.out.mono ?_
  rintro e w1 ⟨k, vm, vp, vo, rfl, hr, hb1⟩
  have HO := hid (owner_any hr HK.out.m1000 HK.out.id64 part hp)
  have HB := hid hb1
  clear hr hb1
  unfold ptr
  go_wp2_with fail
  refine HO.out.mono ?_
  rintro e w2 ⟨rfl, hb2⟩
  go_wp2_with fail
  go_ret
  exact ⟨rfl, HB.out.trans (hb2.mono HB.out.size)⟩
set_option maxHeartbeats 800000 in
theorem Offset_any {w : World} {Z : Nat → Prop} {q : Nat} {S : Gs} (h : AllM w Z q S) (n : ByteArray) (hn : n.size ≤ maxLen) (part : Int) (hp : I64 part) : Calls Try.prog 21 #[.pointer (some ⟨q, 0, none⟩), .string n, .int .i64 part] w fun e w' => e = .returned (.int .i64 (offI (foundG S.gs n.data.toList) part)) ∧ Below w.heap.size w w' := by
  have HF := hid (find_any h n hn)
  clear h
  go_enter Try.func21, Try.ntmps21
  go_wp2_with fail
  refine HF.out.mono ?_
  rintro e w1 ⟨k, vm, vp, vo, rfl, hr, hb1⟩
  have HO := hid (offset_any hr part hp)
  have HB := hid hb1
  clear hr hb1
  unfold ptr
  go_wp2_with fail
  refine HO.out.mono ?_
  rintro e w2 ⟨rfl, rfl⟩
  go_wp2_with fail
  go_ret
  exact ⟨rfl, HB.out⟩
set_option maxHeartbeats 800000 in
theorem Members_any {w : World} {Z : Nat → Prop} {q : Nat} {S : Gs} {N : Nat} (h : AllM w Z q S) (hok : GsOk N S) (n : ByteArray) (hn : n.size ≤ maxLen) : Calls Try.prog 22 #[.pointer (some ⟨q, 0, none⟩), .string n] w fun e w' => ∃ a c, e = .returned (.slice a (idsL (foundG S.gs n.data.toList)).length c) ∧ IL w' (.slice a (idsL (foundG S.gs n.data.toList)).length c) (idsL (foundG S.gs n.data.toList)) ∧ In (fun b => w.heap.size ≤ b) (.slice a (idsL (foundG S.gs n.data.toList)).length c) (idsL (foundG S.gs n.data.toList)) ∧ Below w.heap.size w w' := by
  have HF := hid (find_any h n hn)
  have HK := hid (foundOk hok n.data.toList)
  clear h hok
  go_enter Try.func22, Try.ntmps22
  go_wp2_with fail
  refine HF.out.mono ?_
  rintro e w1 ⟨k, vm, vp, vo, rfl, hr, hb1⟩
  have HO := hid (ids_any hr HK.out.m1000 HK.out.id64)
  have HB := hid hb1
  clear hr hb1
  unfold ptr
  go_wp2_with fail
  refine HO.out.mono ?_
  rintro e w2 ⟨v', rfl, h1, h2, hb2⟩
  obtain ⟨a, c, rfl⟩ : ∃ a c, v' = .slice a (idsL (foundG S.gs n.data.toList)).length c := by obtain ⟨⟨a, cap, e, _⟩, _⟩ := h1; exact ⟨_, _, e⟩
  have H1 := hid h1
  have H2 := hid h2
  clear h1 h2
  go_wp2_with fail
  go_ret
  exact ⟨a, c, rfl, H1.out, H2.out.mono (fun b hb => by have := HB.out.size; omega), HB.out.trans (hb2.mono HB.out.size)⟩
def gs_zero : Gs := ⟨[], 0⟩
end Go.Proofs.Ytdnpbhijjmlecaa
