/- What writes lists of ints, texts, a batch's body. -/
import Derived.Test.YtkdbclnnmpnfgaaH2
import Derived.Lib.AppendStr
namespace Go.Proofs.Ytkdbclnnmpnfgaa
open Go.RowKit Go.Maps
set_option linter.unusedSimpArgs false
set_option linter.unusedVariables false
set_option maxRecDepth 100000

def IntsAt (w : World) (a : Option Addr) (B : Nat) (ns : List Int) : Prop := ns = [] ∨ ∃ b off, a = some ⟨b, off, none⟩ ∧ b < B ∧ ∀ i (h : i < ns.length), w.cell? ⟨b, off + i, none⟩ = some (.int .i64 ns[i])
theorem IntsAt.under {w w' : World} {a : Option Addr} {B : Nat} {ns : List Int} (h : IntsAt w a B ns) (hb : Below B w w') : IntsAt w' a B ns := by
  rcases h with h | ⟨b, off, e, hl, hc⟩
  · exact .inl h
  · exact .inr ⟨b, off, e, hl, fun i hi => (World.cell?_of_block (a := ⟨b, off + i, none⟩) (hb.block b hl)).trans (hc i hi)⟩
theorem IntsAt.at {w : World} {a : Option Addr} {B : Nat} {ns : List Int} (h : IntsAt w a B ns) (k : Nat) (hk : k < ns.length) : ∃ b off, a = some ⟨b, off, none⟩ ∧ w.cell? ⟨b, off + k, none⟩ = some (.int .i64 ns[k]) := by
  rcases h with h | ⟨b, off, e, hl, hc⟩
  · subst h; simp at hk
  · exact ⟨b, off, e, hc k hk⟩

theorem ints_take (ns : List Int) (k : Nat) (h : k < ns.length) : intsL (ns.take (k + 1)) = intsL (ns.take k) ++ intL ns[k] := by
  rw [List.take_succ_eq_append_getElem h, intsL_snoc]

set_option maxHeartbeats 800000 in
theorem appendInts_any {w : World} {B : Nat} {v : Value} {l : List UInt8} (h : Row w B v l) (hB : B ≤ w.heap.size) (a : Option Addr) (cap : Nat) (ns : List Int) (ha : IntsAt w a B ns) (hi : ∀ n ∈ ns, I64 n) (hn : ns.length ≤ maxLen) (hl : l.length + ns.length * 10 ≤ 1000000000000) :
    Calls Try.prog 77 #[v, .slice a ns.length cap] w fun e w' => ∃ v', e = .returned v' ∧ Row w' B v' (l ++ intsL ns) ∧ Below B w w' ∧ Grow w w' v v' := by
  unfold maxLen at hn
  have HA := hid ha
  have HI := hid hi
  have H0 : Hid (Row w B v (l ++ intsL (ns.take 0)) ∧ Below B w w ∧ Grow w w v v) := ⟨by simpa [intsL] using h, .refl _ _, .refl _ _⟩
  clear h ha hi
  go_enter Try.func77, Try.ntmps77
  go_wp2
  go_loopg [0, 9] ns.length (fun kx s0 s9 wr => ∃ (k : Nat) (sv : Value), k ≤ ns.length ∧ ns.length - k ≤ kx ∧ s9 = .int .i64 k ∧ sv = s0 ∧ Hid (Row wr B sv (l ++ intsL (ns.take k)) ∧ Below B w wr ∧ Grow w wr v sv))
  case atStart => exact ⟨0, _, by omega, by omega, rfl, rfl, H0⟩
  case round =>
    obtain ⟨k, sv, hk, hkx, rfl, rfl, HD⟩ := hrel
    clear H0
    by_cases hlt : k < ns.length
    · have hlt' : (k : Int) < (ns.length : Int) := by omega
      obtain ⟨b, off, rfl, hc⟩ := (HA.out.under HD.out.2.1).at k hlt
      have hlen : (l ++ intsL (ns.take k)).length ≤ 1000000000000 := by
        have := intsL_length (ns.take k)
        have h2 : (ns.take k).length ≤ ns.length := by simp; omega
        simp only [List.length_append]; omega
      have HC := hid (appendInt_any HD.out.1 (Nat.le_trans hB HD.out.2.1.size) hlen ns[k] (HI.out _ (List.getElem_mem hlt)))
      have HT := hid (ints_take ns k hlt)
      clear hlen
      generalize ns[k] = N at *
      go_wp2_with (go_at_call 78; refine HC.out.mono ?_; rintro e w1 ⟨v', rfl, hrow, hb, hgr⟩)
      go_roundg (ns.length - (k + 1))
      case measure => omega
      case rel => exact ⟨k + 1, v', by omega, Nat.le_refl _, by go_num, rfl, by rw [HT.out, ← List.append_assoc]; exact hrow, HD.out.2.1.trans hb, HD.out.2.2.trans hgr⟩
    · have hlt' : ¬ (k : Int) < (ns.length : Int) := by omega
      have he : ns.take k = ns := List.take_of_length_le (by omega)
      have HE := hid HD.out
      rw [he] at HE
      clear he
      go_wp2
      go_ret
      exact ⟨_, rfl, HE.out⟩

theorem strCells_eq (l : List UInt8) : Lib.strCells (strOf l) = u8c l := by
  unfold Lib.strCells u8c
  rw [strOf_data]

/-- A string's bytes behind a row that is there: where the new row lies. -/
theorem append_text_at {w : World} {B ty : Nat} {i : TypeInfo} (hi : Try.prog.info? 5 = some i) (hz : i.zero = some (.int .u8 0)) (hsize : i.size = 1) (hby : i.bytes = 1) {v : Value} {n : Nat} {xs : List Value} (hown : w.ownsRow B 5 1 v n xs) (hn : 0 < n) (s : ByteArray) (h63 : n + s.size ≤ 140737488355328) (hbase : B ≤ w.heap.size) :
    ∃ v' w', (Builtin.append_ #[85, 9] ty #[v, .string s]).run Try.prog w = .ok v' w' ∧ w'.ownsRow B 5 1 v' (n + s.size) (xs ++ Lib.strCells s) ∧ w.grownBy w' v.ownBlock ∧ (v'.ownBlock = v.ownBlock ∨ v'.ownBlock = some w.heap.size) := by
  obtain ⟨v', w', hr, h1, h2, _⟩ := Lib.run_append_own_string (P := Try.prog) w B 85 9 ty 5 i Try.underlying85 Try.underlying9 hi hz hsize hby v n xs hown s (by unfold maxLen; omega) h63 hbase
  refine ⟨v', w', hr, h1, h2, ?_⟩
  rcases hown.2 with ⟨rfl, rfl⟩ | ⟨g, cap, cur, rfl, hbg, hg, hnc, hcm, hcs, htake⟩
  · omega
  · by_cases hroom : n + s.size ≤ cap
    · have hr2 := Lib.run_append_room_string (P := Try.prog) w 85 9 ty 5 i Try.underlying85 Try.underlying9 hi hsize g n cap cur hg s hroom (by omega)
      rw [hr] at hr2
      simp only [Result.ok.injEq] at hr2
      exact .inl (by rw [hr2.1]; rfl)
    · have holds : ∀ j u, xs[j]? = some u → w.cell? ((⟨g, 0, none⟩ : Addr).add j) = some u := hown.cells (g := g) rfl
      have hr2 := Lib.run_append_grow_string (P := Try.prog) w 85 9 ty 5 i (.int .u8 0) Try.underlying85 Try.underlying9 hi hz ⟨g, 0, none⟩ n cap xs (by rw [hsize]; simpa using hown.1) holds s (by omega) (by omega) (by rw [hby]; exact growslice_fits (by omega) (by omega))
      rw [hr] at hr2
      simp only [Result.ok.injEq] at hr2
      exact .inr (by rw [hr2.1]; rfl)
theorem wpList_append_text {w : World} {ops : Array Oper} {rest : List Oper} {o : Oper} {a : Act} {Q : Exit → Act → World → Prop} (hgd : o.guard = none) (sl x : Operand)
    (ho : o.op = .call { callee := .builtin .append, args := #[sl, x], argTypes := #[85, 9] }) (B : Nat)
    (v : Value) (n : Nat) (xs : List Value) (hs : a.eval sl = v) (hown : w.ownsRow B 5 1 v n xs) (hn : 0 < n) (s : ByteArray) (hx : a.eval x = .string s)
    (h63 : n + s.size ≤ 140737488355328) (hbase : B ≤ w.heap.size)
    (h : ∀ v' w', w'.ownsRow B 5 1 v' (n + s.size) (xs ++ Lib.strCells s) → w.grownBy w' v.ownBlock → (v'.ownBlock = v.ownBlock ∨ v'.ownBlock = some w.heap.size) → wpList Try.prog ops Q rest (a.put o.dst v') w') : wpList Try.prog ops Q (o :: rest) a w := by
  obtain ⟨i0, hi0, hz0, hz1, hz2⟩ := info5
  refine wpList_plain hgd fun K hK => ?_
  obtain ⟨v', w', hr, h2, h3, h4⟩ := append_text_at (ty := o.type) hi0 hz0 hz1 hz2 hown hn s h63 hbase
  unfold Oper.wp execOp
  simp only [ho, resolve, invoke, builtin, Sem.run_bind, Sem.run_pure, Result.andThen_ok, List.map_toArray, List.map_cons, List.map_nil, hs, hx, hr]
  exact hK _ _ (h v' w' h2 h3 h4)

set_option maxHeartbeats 800000 in
theorem appendText_any {w : World} {B : Nat} {v : Value} {l : List UInt8} (h : Row w B v l) (hB : B ≤ w.heap.size) (t : List UInt8) (hl : l.length + t.length ≤ 100000000000) :
    Calls Try.prog 79 #[v, .string (strOf t)] w fun e w' => ∃ v', e = .returned v' ∧ Row w' B v' (l ++ textL t) ∧ Below B w w' ∧ Grow w w' v v' := by
  obtain ⟨i0, hi0, hz0, hz1, hz2⟩ := info5
  have hts := strOf_size t
  have HC := hid (appendInt_any h hB (by omega) (t.length : Int) ⟨by omega, by omega⟩)
  have hL := intL_length (t.length : Int)
  have hL2 : (l ++ intL (t.length : Int)).length = l.length + (intL (t.length : Int)).length := by simp
  have H0 : Hid (∀ v' w1 v2 w2, Row w1 B v' (l ++ intL (t.length : Int)) → Below B w w1 → Grow w w1 v v' → w2.ownsRow B 5 1 v2 ((l ++ intL (t.length : Int)).length + (strOf t).size) (u8c (l ++ intL (t.length : Int)) ++ Lib.strCells (strOf t)) → w1.grownBy w2 v'.ownBlock → (v2.ownBlock = v'.ownBlock ∨ v2.ownBlock = some w1.heap.size) → Row w2 B v2 (l ++ textL t) ∧ Below B w w2 ∧ Grow w w2 v v2) := by
    intro v' w1 v2 w2 h1 h2 h5 h3 h4 h6
    rw [strCells_eq, strOf_size] at h3
    have := Row.of h3
    rw [List.append_assoc] at this
    refine ⟨this, h2.grown h4 (Nat.le_trans hB h2.size) h1.own, h5.trans ⟨h4, fun q hq => ?_⟩⟩
    rcases h6 with h6 | h6
    · exact .inl (h6 ▸ hq)
    · rw [h6] at hq; cases hq; exact .inr (Nat.le_refl _)
  have hLp : 0 < (l ++ intL (t.length : Int)).length := by omega
  clear h
  generalize l ++ intL (t.length : Int) = L at *
  go_enter Try.func79, Try.ntmps79
  go_wp2_with (first | (go_at_call 78; refine HC.out.mono ?_; rintro e w1 ⟨v', rfl, hrow, hb, hgr⟩) | (at_builtin; refine wpList_append_text rfl _ _ rfl B _ L.length (u8c L) rfl hrow hLp (strOf t) rfl (by omega) (by have := hb.size; omega) ?_; intro v2 w2 hown2 hg2 hat))
  have HF := H0.out _ _ _ _ hrow hb hgr hown2 hg2 hat
  go_ret
  exact ⟨_, rfl, HF⟩
end Go.Proofs.Ytkdbclnnmpnfgaa

/- A batch's body, written. -/
namespace Go.Proofs.Ytkdbclnnmpnfgaa
open Go.RowKit Go.Maps
set_option linter.unusedSimpArgs false
set_option linter.unusedVariables false
set_option maxRecDepth 100000

theorem cell_blk {w : World} {q : Nat} {cs : Array Value} {T : TypeId} {mk : Nat × Nat} (h : w.heap[q]? = some (.cells cs T mk)) (j : Nat) (u : Value) (hu : cs[j]? = some u) : w.cell? ⟨q, j, none⟩ = some u := by
  show (match w.heap[q]? with | some (.cells c _ _) => c[j]? | _ => none) = _
  rw [h]
  exact hu
theorem Row.lt {w : World} {B : Nat} {v : Value} {l : List UInt8} (h : Row w B v l) : ∀ k, v.ownBlock = some k → k < w.heap.size := fun k hk => (World.ownsRow.lt h k hk).2
theorem kept_box {wr w1 : World} {B : Nat} {v v1 : Value} {m : List UInt8} {cs : Array Value} {T : TypeId} (hr : Row wr B v m) (g : Grow (wr.alloc (.cells cs T)) w1 v v1) :
    w1.heap[wr.heap.size]? = some (.cells cs T) ∧ v1.ownBlock ≠ some wr.heap.size ∧ wr.heap.size < w1.heap.size := by
  have h := g.block (q := wr.heap.size) (by simp) (fun e => by have := hr.lt _ e; omega)
  exact ⟨h.1.trans (heap_alloc_new wr _), h.2⟩

/-- Where batchBody stands behind k records. -/
structure BodyAt (w : World) (B : Nat) (b : Bat) (k : Nat) (v : Value) (wr : World) : Prop where
  row : Row wr B v (intsL (numsOf b) ++ intL b.recs.length ++ recsL (b.recs.take k))
  below : Below w.heap.size w wr
  base : w.heap.size ≤ B
  size : B ≤ wr.heap.size

theorem recs_take (rs : List Rec) (k : Nat) (h : k < rs.length) : recsL (rs.take (k + 1)) = recsL (rs.take k) ++ recL rs[k] := by
  rw [List.take_succ_eq_append_getElem h, recsL_snoc]

theorem body_short (b : Bat) (hn : b.recs.length ≤ 64) (ht : ∀ r ∈ b.recs, r.key.length ≤ 1000 ∧ r.val.length ≤ 1000) (k : Nat) : (intsL (numsOf b) ++ intL b.recs.length ++ recsL (b.recs.take k)).length ≤ 1000000 := by
  have h1 := intsL_length (numsOf b)
  have h2 := intL_length (b.recs.length : Int)
  have h3 := recsL_length 1000 (b.recs.take k) (fun r hr => ht r (List.mem_of_mem_take hr))
  have h4 : (b.recs.take k).length ≤ 64 := by simp; omega
  have h5 : (numsOf b).length = 5 := rfl
  have h6 : (b.recs.take k).length * (30 + 2 * 1000) ≤ 64 * (30 + 2 * 1000) := Nat.mul_le_mul_right _ h4
  simp only [List.length_append]
  omega

theorem BodyAt.next {w : World} {B : Nat} {b : Bat} {k : Nat} {v : Value} {wr : World} (h : BodyAt w B b k v wr) (hk : k < b.recs.length) {O : Obj} {w1 w2 w3 : World} {v3 : Value} {M : List UInt8}
    (hM : M = intsL (numsOf b) ++ intL b.recs.length ++ recsL (b.recs.take k)) (r3 : Row w3 B v3 (M ++ intL b.recs[k].time ++ textL b.recs[k].key ++ textL b.recs[k].val)) (b1 : Below B (wr.alloc O) w1) (b2 : Below B w1 w2) (b3 : Below B w2 w3) : BodyAt w B b (k + 1) v3 w3 := by
  have hb := h.base
  have hs := h.size
  refine ⟨?_, ?_, hb, ?_⟩
  · rw [recs_take _ k hk]
    have e : intsL (numsOf b) ++ intL b.recs.length ++ (recsL (b.recs.take k) ++ recL b.recs[k]) = M ++ intL b.recs[k].time ++ textL b.recs[k].key ++ textL b.recs[k].val := by
      rw [hM]; simp [recL]
    rw [e]; exact r3
  · exact (((h.below.alloc (Nat.le_trans hb hs) O).trans (b1.mono hb)).trans (b2.mono hb)).trans (b3.mono hb)
  · have h1 := b1.size; have h2 := b2.size; have h3 := b3.size
    simp at h1; omega

set_option maxHeartbeats 1600000 in
theorem body_any {w : World} (b : Bat) (a : Option Addr) (cap : Nat) (ha : RecsAt w a b.recs) (hi : b.ints) (hok : ∀ r ∈ b.recs, I64 r.time) (hn : b.recs.length ≤ 64) (ht : ∀ r ∈ b.recs, r.key.length ≤ 1000 ∧ r.val.length ≤ 1000) :
    Calls Try.prog 59 #[.agg #[.int .i64 b.base, .int .i64 b.epoch, .int .i64 b.pid, .int .i64 b.pidEpoch, .int .i64 b.seq, .slice a b.recs.length cap]] w fun e w' => e = .returned (.string (strOf (bodyL b))) ∧ Below w.heap.size w w' := by
  have HA := hid ha
  have HOK := hid hok
  have HT := hid ht
  have HS := hid (body_short b hn ht)
  have H47 : Hid (∀ w1 : World, Calls Try.prog 77 #[.slice none 0 0, .slice (some ⟨w1.heap.size, 0, none⟩) 5 5] (w1.alloc (.cells #[.int .i64 b.base, .int .i64 b.epoch, .int .i64 b.pid, .int .i64 b.pidEpoch, .int .i64 b.seq] 111))
      fun e w' => ∃ v', e = .returned v' ∧ Row w' (w1.heap.size + 1) v' (intsL (numsOf b)) ∧ Below (w1.heap.size + 1) (w1.alloc (.cells #[.int .i64 b.base, .int .i64 b.epoch, .int .i64 b.pid, .int .i64 b.pidEpoch, .int .i64 b.seq] 111)) w') := by
    intro w1
    have hIA : IntsAt (w1.alloc (.cells #[.int .i64 b.base, .int .i64 b.epoch, .int .i64 b.pid, .int .i64 b.pidEpoch, .int .i64 b.seq] 111)) (some ⟨w1.heap.size, 0, none⟩) (w1.heap.size + 1) (numsOf b) := by
      refine .inr ⟨w1.heap.size, 0, rfl, by omega, fun i hi => ?_⟩
      have hi5 : i < 5 := hi
      refine cell_new rfl ?_
      match i, hi5 with
      | 0, _ => rfl
      | 1, _ => rfl
      | 2, _ => rfl
      | 3, _ => rfl
      | 4, _ => rfl
    have := appendInts_any (Row.nil (w1.alloc (.cells #[.int .i64 b.base, .int .i64 b.epoch, .int .i64 b.pid, .int .i64 b.pidEpoch, .int .i64 b.seq] 111)) (w1.heap.size + 1)) (by simp) (some ⟨w1.heap.size, 0, none⟩) 5 (numsOf b) hIA (by
      intro n hn
      simp only [numsOf, List.mem_cons, List.not_mem_nil, or_false] at hn
      rcases hn with rfl | rfl | rfl | rfl | rfl
      · exact hi.h0
      · exact hi.h1
      · exact hi.h2
      · exact hi.h3
      · exact hi.h4) (by unfold maxLen; simp [numsOf]) (by simp [numsOf])
    refine this.mono ?_
    rintro e w' ⟨v', rfl, hr, hb, _⟩
    rw [List.nil_append] at hr
    exact ⟨v', rfl, hr, hb⟩
  have hnl : (b.recs.length : Int) ≤ 64 := by omega
  have HE : Hid (bodyL b = intsL (numsOf b) ++ intL b.recs.length ++ recsL b.recs) := rfl
  have hL5 : (intsL (numsOf b)).length ≤ 50 := intsL_length (numsOf b)
  clear ha hok ht hi
  go_enter Try.func59, Try.ntmps59
  go_wp2_with (go_at_call 76; refine (numbers_any _ _ _ _ _ _ _ _ _).mono ?_; rintro e w1 ⟨rfl, hb1⟩)
  have c5 := box_cell hb1 5 _ rfl
  have hs1 := hb1.size
  have HB1 := hid hb1
  clear hb1
  go_wp2_with (go_at_call 77; refine (H47.out _).mono ?_; rintro e w2 ⟨v2, rfl, hr2, hb2⟩; have c52 := (hb2.cell (p := ⟨w.heap.size, 5, none⟩) (by simp at hs1 ⊢; omega)).trans ((World.cell?_of_block (a := ⟨w.heap.size, 5, none⟩) (Below.heap_alloc w1 _ w.heap.size (by simp at hs1; omega))).trans c5))
  have hs2 := hb2.size
  have hB2 : w1.heap.size + 1 ≤ w2.heap.size := by simpa using hs2
  have H30 := hid (appendInt_any hr2 hB2 (by omega) (b.recs.length : Int) ⟨by omega, by omega⟩)
  have HB2 : Hid (Below w.heap.size w w2) := (((Below.refl _ w).alloc (Nat.le_refl _) _).trans (HB1.out.mono (by simp))).trans (((Below.refl _ w1).alloc (by simp at hs1; omega) _).trans (hb2.mono (by simp at hs1; omega)))
  have HC2 : Hid (∀ w3, Below (w1.heap.size + 1) w2 w3 → w3.cell? ⟨w.heap.size, 5, none⟩ = some (.slice a b.recs.length cap)) := fun w3 h3 => (h3.cell (p := ⟨w.heap.size, 5, none⟩) (by simp at hs1 ⊢; omega)).trans c52
  have hBw : w.heap.size ≤ w1.heap.size + 1 := by simp at hs1; omega
  clear hr2 hb2 c5 HB1 H47
  go_wp2_with (go_at_call 78; refine H30.out.mono ?_; rintro e w3 ⟨v3, rfl, hr3, hb3, _⟩; have c53 := HC2.out w3 hb3)
  have H0 : Hid (BodyAt w (w1.heap.size + 1) b 0 v3 w3) := ⟨by simpa [recsL] using hr3, HB2.out.trans (hb3.mono hBw), hBw, Nat.le_trans hB2 hb3.size⟩
  generalize w1.heap.size + 1 = B at *
  clear hr3 hb3 HC2 H30 c52 c53 HB2 hs1 hs2 hB2
  go_loopg [4, 19] b.recs.length (fun kx s4 s19 wr => ∃ (k : Nat) (sv : Value), k ≤ b.recs.length ∧ b.recs.length - k ≤ kx ∧ s19 = .int .i64 k ∧ sv = s4 ∧ Hid (BodyAt w B b k sv wr))
  case atStart => exact ⟨0, _, by omega, by omega, rfl, rfl, H0⟩
  case round =>
    obtain ⟨k, sv, hk, hkx, rfl, rfl, HD⟩ := hrel
    clear H0
    by_cases hlt : k < b.recs.length
    · have hlt' : (k : Int) < (b.recs.length : Int) := by omega
      obtain ⟨rb, off, rfl, hbl, hc0, hc1, hc2⟩ := Recs.at (cap := cap) (HA.out.under HD.out.below) k hlt
      have hI := HOK.out _ (List.getElem_mem hlt)
      have hTx := HT.out _ (List.getElem_mem hlt)
      have hMs := HS.out k
      have hrow := HD.out.row
      have hsz := HD.out.size
      have HN : Hid (∀ (O : Obj) (w1 w2 w3 : World) (v3 : Value) (M : List UInt8), M = intsL (numsOf b) ++ intL b.recs.length ++ recsL (b.recs.take k) → Row w3 B v3 (M ++ intL b.recs[k].time ++ textL b.recs[k].key ++ textL b.recs[k].val) → Below B (wr.alloc O) w1 → Below B w1 w2 → Below B w2 w3 → BodyAt w B b (k + 1) v3 w3) := fun O w1 w2 w3 v3 M hM r3 b1 b2 b3 => HD.out.next hlt hM r3 b1 b2 b3
      obtain ⟨M, hM⟩ : ∃ M, M = intsL (numsOf b) ++ intL b.recs.length ++ recsL (b.recs.take k) := ⟨_, rfl⟩
      have HM := hid hM
      rw [← hM] at hrow hMs
      clear hM
      generalize b.recs[k] = R at *
      have hlT := intL_length R.time
      have hlK := textL_length R.key
      have G1 : Hid (∀ O, Calls Try.prog 78 #[sv, .int .i64 R.time] (wr.alloc O) fun e w' => ∃ v', e = .returned v' ∧ Row w' B v' (M ++ intL R.time) ∧ Below B (wr.alloc O) w' ∧ Grow (wr.alloc O) w' sv v') := fun O =>
        appendInt_any (hrow.alloc O) (by simp; omega) (by omega) R.time hI
      have G2 : Hid (∀ w1 v1, Row w1 B v1 (M ++ intL R.time) → B ≤ w1.heap.size → Calls Try.prog 79 #[v1, .string (strOf R.key)] w1 fun e w' => ∃ v', e = .returned v' ∧ Row w' B v' (M ++ intL R.time ++ textL R.key) ∧ Below B w1 w' ∧ Grow w1 w' v1 v') := fun w1 v1 h1 h2 =>
        appendText_any h1 h2 R.key (by simp only [List.length_append]; omega)
      have G3 : Hid (∀ w1 v1, Row w1 B v1 (M ++ intL R.time ++ textL R.key) → B ≤ w1.heap.size → Calls Try.prog 79 #[v1, .string (strOf R.val)] w1 fun e w' => ∃ v', e = .returned v' ∧ Row w' B v' (M ++ intL R.time ++ textL R.key ++ textL R.val) ∧ Below B w1 w' ∧ Grow w1 w' v1 v') := fun w1 v1 h1 h2 =>
        appendText_any h1 h2 R.val (by simp only [List.length_append]; omega)
      have hrowH := hid hrow
      clear hrow hlT hlK hMs hI hTx
      go_wp2_with fail
      refine (G1.out _).mono ?_
      rintro e w4 ⟨v4, rfl, r4, b4, g4⟩
      obtain ⟨x4, y4, z4⟩ := kept_box hrowH.out g4
      have X4 := hid x4
      have d4 := cell_blk x4 0 (.string (strOf R.key)) rfl
      clear x4
      go_wp2_with fail
      have s4 : B ≤ w4.heap.size := by have := b4.size; simp at this; omega
      refine (G2.out _ _ r4 s4).mono ?_
      rintro e w5 ⟨v5, rfl, r5, b5, g5⟩
      obtain ⟨x5, y5, z5⟩ := g5.block z4 y4
      have d5 := cell_blk (x5.trans X4.out) 1 (.string (strOf R.val)) rfl
      clear x5 y5 z5
      have s5 : B ≤ w5.heap.size := Nat.le_trans s4 b5.size
      go_wp2_with fail
      refine (G3.out _ _ r5 s5).mono ?_
      rintro e w6 ⟨v6, rfl, r6, b6, g6⟩
      have HF : Hid (BodyAt w B b (k + 1) v6 w6) := HN.out _ _ _ _ _ _ HM.out r6 b4 b5 b6
      clear r6 b6 g6 r5 b5 g5 r4 b4 g4 G1 G2 G3
      go_wp2
      go_roundg (b.recs.length - (k + 1))
      case measure => omega
      case rel => exact ⟨k + 1, v6, by omega, Nat.le_refl _, by go_num, rfl, HF⟩
    · have hlt' : ¬ (k : Int) < (b.recs.length : Int) := by omega
      have hrow := HD.out.row
      rw [List.take_of_length_le (by omega), ← HE.out] at hrow
      have hcv := hrow.conv
      obtain ⟨ra, rcap, hv⟩ := hrow.shape
      subst hv
      clear hrow
      go_wp2
      go_ret
      exact ⟨rfl, HD.out.below⟩
end Go.Proofs.Ytkdbclnnmpnfgaa

