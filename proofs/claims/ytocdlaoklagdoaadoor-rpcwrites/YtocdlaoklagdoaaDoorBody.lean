/- What writes lists of ints, texts, a batch's body. -/
import Derived.Test.YtocdlaoklagdoaaDoorNums
import Derived.Lib.AppendStr
namespace Go.Proofs.YtocdlaoklagdoaaDoor
open Go.RowKit Go.Maps
set_option linter.unusedSimpArgs false
set_option linter.unusedVariables false
set_option maxRecDepth 100000

def IntsAt (w : World) (a : Option Addr) (B : Nat) (ns : List Int) : Prop := ns = [] ∨ ∃ b off, a = some ⟨b, off, none⟩ ∧ b < B ∧ ∀ i (h : i < ns.length), w.cell? ⟨b, off + i, none⟩ = some (.int .i64 ns[i])
theorem IntsAt.under {w w' : World} {a : Option Addr} {B : Nat} {ns : List Int} (h : IntsAt w a B ns) (hb : Below B w w') : IntsAt w' a B ns := by
  rcases h with h | ⟨b, off, e, hl, hc⟩
  · exact .inl h
  · exact .inr ⟨b, off, e, hl, fun i hi => (World.cell?_of_block (a := ⟨b, off + i, none⟩) (hb.block b hl)).trans (hc i hi)⟩
theorem IntsAt.at {w : World} {a : Option Addr} {B : Nat} {ns : List Int} (h : IntsAt w a B ns) (k : Nat) (hk : k < ns.length) : ∃ b off, a = some ⟨b, off, none⟩ ∧ w.cell? ⟨b, off + k, none⟩ = some (.int .i64 ns[k]) := by
  rcases h with h | ⟨b, off, e, hl, hc⟩
  · subst h; simp at hk
  · exact ⟨b, off, e, hc k hk⟩

theorem ints_take (ns : List Int) (k : Nat) (h : k < ns.length) : intsL (ns.take (k + 1)) = intsL (ns.take k) ++ intL ns[k] := by
  rw [List.take_succ_eq_append_getElem h, intsL_snoc]

set_option maxHeartbeats 800000 in
theorem appendInts_any {w : World} {B : Nat} {v : Value} {l : List UInt8} (h : Row w B v l) (hB : B ≤ w.heap.size) (a : Option Addr) (cap : Nat) (ns : List Int) (ha : IntsAt w a B ns) (hi : ∀ n ∈ ns, I64 n) (hn : ns.length ≤ maxLen) (hl : l.length + ns.length * 10 ≤ 1000000000000) :
    Calls Tryd.prog 84 #[v, .slice a ns.length cap] w fun e w' => ∃ v', e = .returned v' ∧ Row w' B v' (l ++ intsL ns) ∧ Below B w w' ∧ Grow w w' v v' := by
  unfold maxLen at hn
  have HA := hid ha
  have HI := hid hi
  have H0 : Hid (Row w B v (l ++ intsL (ns.take 0)) ∧ Below B w w ∧ Grow w w v v) := ⟨by simpa [intsL] using h, .refl _ _, .refl _ _⟩
  clear h ha hi
  go_enter Tryd.func84, Tryd.ntmps84
  go_wp2
  go_loopg [0, 9] ns.length (fun kx s0 s9 wr => ∃ (k : Nat) (sv : Value), k ≤ ns.length ∧ ns.length - k ≤ kx ∧ s9 = .int .i64 k ∧ sv = s0 ∧ Hid (Row wr B sv (l ++ intsL (ns.take k)) ∧ Below B w wr ∧ Grow w wr v sv))
  case atStart => exact ⟨0, _, by omega, by omega, rfl, rfl, H0⟩
  case round =>
    obtain ⟨k, sv, hk, hkx, rfl, rfl, HD⟩ := hrel
    clear H0
    by_cases hlt : k < ns.length
    · have hlt' : (k : Int) < (ns.length : Int) := by omega
      obtain ⟨b, off, rfl, hc⟩ := (HA.out.under HD.out.2.1).at k hlt
      have hlen : (l ++ intsL (ns.take k)).length ≤ 1000000000000 := by
        have := intsL_length (ns.take k)
        have h2 : (ns.take k).length ≤ ns.length := by simp; omega
        simp only [List.length_append]; omega
      have HC := hid (appendInt_any HD.out.1 (Nat.le_trans hB HD.out.2.1.size) hlen ns[k] (HI.out _ (List.getElem_mem hlt)))
      have HT := hid (ints_take ns k hlt)
      clear hlen
      generalize ns[k] = N at *
      go_wp2_with (go_at_call 85; refine HC.out.mono ?_; rintro e w1 ⟨v', rfl, hrow, hb, hgr⟩)
      go_roundg (ns.length - (k + 1))
      case measure => omega
      case rel => exact ⟨k + 1, v', by omega, Nat.le_refl _, by go_num, rfl, by rw [HT.out, ← List.append_assoc]; exact hrow, HD.out.2.1.trans hb, HD.out.2.2.trans hgr⟩
    · have hlt' : ¬ (k : Int) < (ns.length : Int) := by omega
      have he : ns.take k = ns := List.take_of_length_le (by omega)
      have HE := hid HD.out
      rw [he] at HE
      clear he
      go_wp2
      go_ret
      exact ⟨_, rfl, HE.out⟩

theorem strCells_eq (l : List UInt8) : Lib.strCells (strOf l) = u8c l := by
  unfold Lib.strCells u8c
  rw [strOf_data]

/-- A string's bytes behind a row that is there: where the new row lies. -/
theorem append_text_at {w : World} {B ty : Nat} {i : TypeInfo} (hi : Tryd.prog.info? 5 = some i) (hz : i.zero = some (.int .u8 0)) (hsize : i.size = 1) (hby : i.bytes = 1) {v : Value} {n : Nat} {xs : List Value} (hown : w.ownsRow B 5 1 v n xs) (hn : 0 < n) (s : ByteArray) (h63 : n + s.size ≤ 140737488355328) (hbase : B ≤ w.heap.size) :
    ∃ v' w', (Builtin.append_ #[43, 9] ty #[v, .string s]).run Tryd.prog w = .ok v' w' ∧ w'.ownsRow B 5 1 v' (n + s.size) (xs ++ Lib.strCells s) ∧ w.grownBy w' v.ownBlock ∧ (v'.ownBlock = v.ownBlock ∨ v'.ownBlock = some w.heap.size) := by
  obtain ⟨v', w', hr, h1, h2, _⟩ := Lib.run_append_own_string (P := Tryd.prog) w B 43 9 ty 5 i Tryd.underlying43 Tryd.underlying9 hi hz hsize hby v n xs hown s (by unfold maxLen; omega) h63 hbase
  refine ⟨v', w', hr, h1, h2, ?_⟩
  rcases hown.2 with ⟨rfl, rfl⟩ | ⟨g, cap, cur, rfl, hbg, hg, hnc, hcm, hcs, htake⟩
  · omega
  · by_cases hroom : n + s.size ≤ cap
    · have hr2 := Lib.run_append_room_string (P := Tryd.prog) w 43 9 ty 5 i Tryd.underlying43 Tryd.underlying9 hi hsize g n cap cur hg s hroom (by omega)
      rw [hr] at hr2
      simp only [Result.ok.injEq] at hr2
      exact .inl (by rw [hr2.1]; rfl)
    · have holds : ∀ j u, xs[j]? = some u → w.cell? ((⟨g, 0, none⟩ : Addr).add j) = some u := hown.cells (g := g) rfl
      have hr2 := Lib.run_append_grow_string (P := Tryd.prog) w 43 9 ty 5 i (.int .u8 0) Tryd.underlying43 Tryd.underlying9 hi hz ⟨g, 0, none⟩ n cap xs (by rw [hsize]; simpa using hown.1) holds s (by omega) (by omega) (by rw [hby]; exact growslice_fits (by omega) (by omega))
      rw [hr] at hr2
      simp only [Result.ok.injEq] at hr2
      exact .inr (by rw [hr2.1]; rfl)
theorem wpList_append_text {w : World} {ops : Array Oper} {rest : List Oper} {o : Oper} {a : Act} {Q : Exit → Act → World → Prop} (hgd : o.guard = none) (sl x : Operand)
    (ho : o.op = .call { callee := .builtin .append, args := #[sl, x], argTypes := #[43, 9] }) (B : Nat)
    (v : Value) (n : Nat) (xs : List Value) (hs : a.eval sl = v) (hown : w.ownsRow B 5 1 v n xs) (hn : 0 < n) (s : ByteArray) (hx : a.eval x = .string s)
    (h63 : n + s.size ≤ 140737488355328) (hbase : B ≤ w.heap.size)
    (h : ∀ v' w', w'.ownsRow B 5 1 v' (n + s.size) (xs ++ Lib.strCells s) → w.grownBy w' v.ownBlock → (v'.ownBlock = v.ownBlock ∨ v'.ownBlock = some w.heap.size) → wpList Tryd.prog ops Q rest (a.put o.dst v') w') : wpList Tryd.prog ops Q (o :: rest) a w := by
  obtain ⟨i0, hi0, hz0, hz1, hz2⟩ := info5
  refine wpList_plain hgd fun K hK => ?_
  obtain ⟨v', w', hr, h2, h3, h4⟩ := append_text_at (ty := o.type) hi0 hz0 hz1 hz2 hown hn s h63 hbase
  unfold Oper.wp execOp
  simp only [ho, resolve, invoke, builtin, Sem.run_bind, Sem.run_pure, Result.andThen_ok, List.map_toArray, List.map_cons, List.map_nil, hs, hx, hr]
  exact hK _ _ (h v' w' h2 h3 h4)

set_option maxHeartbeats 800000 in
theorem appendText_any {w : World} {B : Nat} {v : Value} {l : List UInt8} (h : Row w B v l) (hB : B ≤ w.heap.size) (t : List UInt8) (hl : l.length + t.length ≤ 100000000000) :
    Calls Tryd.prog 86 #[v, .string (strOf t)] w fun e w' => ∃ v', e = .returned v' ∧ Row w' B v' (l ++ textL t) ∧ Below B w w' ∧ Grow w w' v v' := by
  obtain ⟨i0, hi0, hz0, hz1, hz2⟩ := info5
  have hts := strOf_size t
  have HC := hid (appendInt_any h hB (by omega) (t.length : Int) ⟨by omega, by omega⟩)
  have hL := intL_length (t.length : Int)
  have hL2 : (l ++ intL (t.length : Int)).length = l.length + (intL (t.length : Int)).length := by simp
  have H0 : Hid (∀ v' w1 v2 w2, Row w1 B v' (l ++ intL (t.length : Int)) → Below B w w1 → Grow w w1 v v' → w2.ownsRow B 5 1 v2 ((l ++ intL (t.length : Int)).length + (strOf t).size) (u8c (l ++ intL (t.length : Int)) ++ Lib.strCells (strOf t)) → w1.grownBy w2 v'.ownBlock → (v2.ownBlock = v'.ownBlock ∨ v2.ownBlock = some w1.heap.size) → Row w2 B v2 (l ++ textL t) ∧ Below B w w2 ∧ Grow w w2 v v2) := by
    intro v' w1 v2 w2 h1 h2 h5 h3 h4 h6
    rw [strCells_eq, strOf_size] at h3
    have := Row.of h3
    rw [List.append_assoc] at this
    refine ⟨this, h2.grown h4 (Nat.le_trans hB h2.size) h1.own, h5.trans ⟨h4, fun q hq => ?_⟩⟩
    rcases h6 with h6 | h6
    · exact .inl (h6 ▸ hq)
    · rw [h6] at hq; cases hq; exact .inr (Nat.le_refl _)
  have hLp : 0 < (l ++ intL (t.length : Int)).length := by omega
  clear h
  generalize l ++ intL (t.length : Int) = L at *
  go_enter Tryd.func86, Tryd.ntmps86
  go_wp2_with (first | (go_at_call 85; refine HC.out.mono ?_; rintro e w1 ⟨v', rfl, hrow, hb, hgr⟩) | (at_builtin; refine wpList_append_text rfl _ _ rfl B _ L.length (u8c L) rfl hrow hLp (strOf t) rfl (by omega) (by have := hb.size; omega) ?_; intro v2 w2 hown2 hg2 hat))
  have HF := H0.out _ _ _ _ hrow hb hgr hown2 hg2 hat
  go_ret
  exact ⟨_, rfl, HF⟩
end Go.Proofs.YtocdlaoklagdoaaDoor
