/- Messages in memory; what writes their lists. -/
import Derived.Test.YtocdlaoklagdoaaDoorPw
namespace Go.Proofs.YtocdlaoklagdoaaDoor
open Go.RowKit Go.Maps
set_option linter.unusedSimpArgs false
set_option linter.unusedVariables false
set_option maxRecDepth 100000

def Ent.ok (e : Ent) : Prop := I64 e.term ∧ I64 e.index ∧ e.data.length ≤ maxLen
def EntCells (w : World) (b o : Nat) (e : Ent) : Prop := w.cell? ⟨b, o, none⟩ = some (.int .i64 e.term) ∧ w.cell? ⟨b, o + 1, none⟩ = some (.int .i64 e.index) ∧ w.cell? ⟨b, o + 2, none⟩ = some (.string (strOf e.data))
def EntsAt (w : World) (a : Option Addr) (es : List Ent) : Prop := es = [] ∨ ∃ b off, a = some ⟨b, off, none⟩ ∧ b < w.heap.size ∧ ∀ i (h : i < es.length), EntCells w b (off + i * 3) es[i]
def BatCells (w : World) (b o : Nat) (x : Bat) (a : Option Addr) (c : Nat) : Prop :=
  w.cell? ⟨b, o, none⟩ = some (.int .i64 x.base) ∧ w.cell? ⟨b, o + 1, none⟩ = some (.int .i64 x.epoch) ∧ w.cell? ⟨b, o + 2, none⟩ = some (.int .i64 x.pid) ∧ w.cell? ⟨b, o + 3, none⟩ = some (.int .i64 x.pidEpoch) ∧ w.cell? ⟨b, o + 4, none⟩ = some (.int .i64 x.seq) ∧ w.cell? ⟨b, o + 5, none⟩ = some (.slice a x.recs.length c)
def BatsAt (w : World) (a : Option Addr) (bs : List Bat) : Prop := bs = [] ∨ ∃ b off, a = some ⟨b, off, none⟩ ∧ b < w.heap.size ∧ ∀ i (h : i < bs.length), ∃ ra rc, BatCells w b (off + i * 6) bs[i] ra rc ∧ Recs w (.slice ra bs[i].recs.length rc) bs[i].recs

theorem EntCells.under {w w' : World} {b o : Nat} {e : Ent} (h : EntCells w b o e) (hb : w'.heap[b]? = w.heap[b]?) : EntCells w' b o e := by
  obtain ⟨h0, h1, h2⟩ := h
  exact ⟨(World.cell?_of_block (a := ⟨b, o, none⟩) hb).trans h0, (World.cell?_of_block (a := ⟨b, o + 1, none⟩) hb).trans h1, (World.cell?_of_block (a := ⟨b, o + 2, none⟩) hb).trans h2⟩
theorem BatCells.under {w w' : World} {b o : Nat} {x : Bat} {a : Option Addr} {c : Nat} (h : BatCells w b o x a c) (hb : w'.heap[b]? = w.heap[b]?) : BatCells w' b o x a c := by
  obtain ⟨h0, h1, h2, h3, h4, h5⟩ := h
  exact ⟨(World.cell?_of_block (a := ⟨b, o, none⟩) hb).trans h0, (World.cell?_of_block (a := ⟨b, o + 1, none⟩) hb).trans h1, (World.cell?_of_block (a := ⟨b, o + 2, none⟩) hb).trans h2, (World.cell?_of_block (a := ⟨b, o + 3, none⟩) hb).trans h3, (World.cell?_of_block (a := ⟨b, o + 4, none⟩) hb).trans h4, (World.cell?_of_block (a := ⟨b, o + 5, none⟩) hb).trans h5⟩
theorem EntsAt.under {w w' : World} {a : Option Addr} {es : List Ent} (h : EntsAt w a es) (hb : Below w.heap.size w w') : EntsAt w' a es := by
  rcases h with h | ⟨b, off, e, hl, hc⟩
  · exact .inl h
  · exact .inr ⟨b, off, e, Nat.lt_of_lt_of_le hl hb.size, fun i hi => (hc i hi).under (hb.block b hl)⟩
theorem BatsAt.under {w w' : World} {a : Option Addr} {bs : List Bat} (h : BatsAt w a bs) (hb : Below w.heap.size w w') : BatsAt w' a bs := by
  rcases h with h | ⟨b, off, e, hl, hc⟩
  · exact .inl h
  · refine .inr ⟨b, off, e, Nat.lt_of_lt_of_le hl hb.size, fun i hi => ?_⟩
    obtain ⟨ra, rc, h1, h2⟩ := hc i hi
    exact ⟨ra, rc, h1.under (hb.block b hl), h2.under hb⟩
theorem EntsAt.at {w : World} {a : Option Addr} {es : List Ent} (h : EntsAt w a es) (k : Nat) (hk : k < es.length) : ∃ b off, a = some ⟨b, off, none⟩ ∧ EntCells w b (off + k * 3) es[k] := by
  rcases h with h | ⟨b, off, e, hl, hc⟩
  · subst h; simp at hk
  · exact ⟨b, off, e, hc k hk⟩
theorem BatsAt.at {w : World} {a : Option Addr} {bs : List Bat} (h : BatsAt w a bs) (k : Nat) (hk : k < bs.length) : ∃ b off ra rc, a = some ⟨b, off, none⟩ ∧ BatCells w b (off + k * 6) bs[k] ra rc ∧ Recs w (.slice ra bs[k].recs.length rc) bs[k].recs := by
  rcases h with h | ⟨b, off, e, hl, hc⟩
  · subst h; simp at hk
  · obtain ⟨ra, rc, h1, h2⟩ := hc k hk
    exact ⟨b, off, ra, rc, e, h1, h2⟩
theorem IntsAt.up {w w' : World} {a : Option Addr} {ns : List Int} (h : IntsAt w a w.heap.size ns) (hb : Below w.heap.size w w') : IntsAt w' a w'.heap.size ns := by
  rcases h with h | ⟨b, off, e, hl, hc⟩
  · exact .inl h
  · exact .inr ⟨b, off, e, Nat.lt_of_lt_of_le hl hb.size, fun i hi => (World.cell?_of_block (a := ⟨b, off + i, none⟩) (hb.block b hl)).trans (hc i hi)⟩
theorem IntsAt.in {w : World} {a : Option Addr} {B : Nat} {ns : List Int} {v : Value} {l : List UInt8} (h : IntsAt w a B ns) (hB : B ≤ w.heap.size) (hr : Row w B v l) : IntsIn w v a ns := by
  rcases h with h | ⟨b, off, e, hl, hc⟩
  · exact .inl h
  · exact .inr ⟨b, off, e, Nat.lt_of_lt_of_le hl hB, fun e => by have := hr.own b e; omega, hc⟩

/-- A message's parts are what values of their types are. -/
structure Msg.ok (m : Msg) : Prop where
  kind : I64 m.kind
  nums : ∀ n ∈ nums m, I64 n
  err : I64 m.err
  name : m.name.length ≤ maxLen
  text : m.text.length ≤ maxLen
  bats : ∀ b ∈ m.bats, b.ints
  batsLen : m.bats.length ≤ maxLen
  ents : ∀ e ∈ m.ents, e.ok
  entsLen : m.ents.length ≤ maxLen
  ints : ∀ n ∈ m.ints, I64 n
  intsLen : m.ints.length ≤ maxLen
/-- Where a message's lists lie. -/
structure Here (w : World) (m : Msg) (ba ea ia : Option Addr) : Prop where
  bats : BatsAt w ba m.bats
  ents : EntsAt w ea m.ents
  ints : IntsAt w ia w.heap.size m.ints
theorem Here.under {w w' : World} {m : Msg} {ba ea ia : Option Addr} (h : Here w m ba ea ia) (hb : Below w.heap.size w w') : Here w' m ba ea ia := ⟨h.bats.under hb, h.ents.under hb, h.ints.up hb⟩

set_option maxHeartbeats 800000 in
theorem appIntsL_any {W0 w : World} {v : Value} {l : List UInt8} (hW : Below W0.heap.size W0 w) (h : Row w W0.heap.size v l) (a : Option Addr) (cap : Nat) (ns : List Int) (ha : IntsAt W0 a W0.heap.size ns) (hi : ∀ n ∈ ns, I64 n) (hn : ns.length ≤ 256) (hl : l.length ≤ 100000000) :
    Calls Tryd.prog 75 #[v, .slice a ns.length cap] w fun e w' => ∃ v', e = .returned v' ∧ Row w' W0.heap.size v' (l ++ putI ns) ∧ Below W0.heap.size W0 w' ∧ Grow w w' v v' := by
  have hs := hW.size
  have H71 := hid (one71 h hs (ns.length : Int) ⟨by omega, by omega⟩ (by omega))
  have hz := putN_length (ns.length : Int)
  have H48 : Hid (∀ v1 w1, Row w1 W0.heap.size v1 (l ++ putN (ns.length : Int)) → Below W0.heap.size w w1 → Calls Tryd.prog 48 #[v1, .slice a ns.length cap] w1 fun e w' => ∃ v', e = .returned v' ∧ Row w' W0.heap.size v' (l ++ putN (ns.length : Int) ++ intsL ns) ∧ Below W0.heap.size w1 w' ∧ Grow w1 w' v1 v') := fun v1 w1 h1 h2 => by
    have h3 := hW.trans h2
    exact appInts_any h1 h3.size a cap ns ((ha.under h3).in h3.size h1) hi (by simp only [List.length_append]; omega)
  have HT : Hid (l ++ putI ns = l ++ putN (ns.length : Int) ++ intsL ns) := by show _ = _; unfold putI; rw [List.append_assoc]
  have hlen : (ns.length : Int) ≤ 256 := by omega
  clear h ha hi
  go_enter Tryd.func75, Tryd.ntmps75
  go_wp2_with (first | (go_at_call 71; refine H71.out.mono ?_; rintro e w1 ⟨v1, rfl, hrow1, hb1, hg1⟩) | (go_at_call 48; refine (H48.out _ _ hrow1 hb1).mono ?_; rintro e w2 ⟨v2, rfl, hrow2, hb2, hg2⟩))
  go_ret
  exact ⟨_, rfl, by rw [HT.out]; exact hrow2, hW.trans (hb1.trans hb2), hg1.trans hg2⟩

theorem bats_take (bs : List Bat) (k : Nat) (h : k < bs.length) : batsL (bs.take (k + 1)) = batsL (bs.take k) ++ (batchL bs[k]).1 := by
  rw [List.take_succ_eq_append_getElem h, batsL_snoc]
theorem ents_take (es : List Ent) (k : Nat) (h : k < es.length) : entsL (es.take (k + 1)) = entsL (es.take k) ++ entL es[k] := by
  rw [List.take_succ_eq_append_getElem h, entsL_snoc]

set_option maxHeartbeats 1600000 in
theorem appBats_any {W0 w : World} {v : Value} {l : List UInt8} (hW : Below W0.heap.size W0 w) (h : Row w W0.heap.size v l) (a : Option Addr) (cap : Nat) (bs : List Bat) (ha : BatsAt W0 a bs) (hi : ∀ b ∈ bs, b.ints) (hn : bs.length ≤ 64) (hl : l.length ≤ 10000000) :
    Calls Tryd.prog 73 #[v, .slice a bs.length cap] w fun e w' => ∃ v', e = .returned v' ∧ Row w' W0.heap.size v' (l ++ putB bs) ∧ Below W0.heap.size W0 w' ∧ Grow w w' v v' := by
  have hs := hW.size
  have H71 := hid (one71 h hs (bs.length : Int) ⟨by omega, by omega⟩ (by omega))
  have hz := putN_length (bs.length : Int)
  have HT : Hid (l ++ putB bs = l ++ putN (bs.length : Int) ++ batsL bs) := by show _ = _; unfold putB; rw [List.append_assoc]
  have hlen : (bs.length : Int) ≤ 64 := by omega
  have hL : (l ++ putN (bs.length : Int)).length ≤ 10000010 := by simp only [List.length_append]; omega
  have HA := hid ha
  have HI := hid hi
  have HW := hid hW
  clear h ha hi hz hW
  generalize l ++ putN (bs.length : Int) = L at *
  go_enter Tryd.func73, Tryd.ntmps73
  go_wp2_with (go_at_call 71; refine H71.out.mono ?_; rintro e w1 ⟨v1, rfl, hrow1, hb1, hg1⟩)
  have H0 : Hid (Row w1 W0.heap.size v1 (L ++ batsL (bs.take 0)) ∧ Below W0.heap.size W0 w1 ∧ Grow w w1 v v1) := ⟨by simpa [batsL] using hrow1, HW.out.trans hb1, hg1⟩
  clear hrow1 hb1 hg1 H71
  go_loopg [0, 16] bs.length (fun kx s0 s16 wr => ∃ (k : Nat) (sv : Value), k ≤ bs.length ∧ bs.length - k ≤ kx ∧ s16 = .int .i64 k ∧ sv = s0 ∧ Hid (Row wr W0.heap.size sv (L ++ batsL (bs.take k)) ∧ Below W0.heap.size W0 wr ∧ Grow w wr v sv))
  case atStart => exact ⟨0, _, by omega, by omega, rfl, rfl, H0⟩
  case round =>
    obtain ⟨k, sv, hk, hkx, rfl, rfl, HD⟩ := hrel
    clear H0
    by_cases hlt : k < bs.length
    · have hlt' : (k : Int) < (bs.length : Int) := by omega
      obtain ⟨b, off, ra, rc, rfl, ⟨c0, c1, c2, c3, c4, c5⟩, hrecs⟩ := (HA.out.under HD.out.2.1).at k hlt
      have hbs := HD.out.2.1.size
      have hlen2 : (L ++ batsL (bs.take k)).length ≤ 20000000 := by
        have := batsL_length (bs.take k)
        have h2 : (bs.take k).length ≤ 64 := by simp; omega
        simp only [List.length_append]; omega
      have hbl := batchL_length bs[k]
      have HC := hid (batch_any bs[k] ra rc (hrecs.under ((Below.refl _ _).alloc (Nat.le_refl _) (.cells #[.int .i64 bs[k].base, .int .i64 bs[k].epoch, .int .i64 bs[k].pid, .int .i64 bs[k].pidEpoch, .int .i64 bs[k].seq, .slice ra bs[k].recs.length rc] 50))) (HI.out _ (List.getElem_mem hlt)))
      have HT2 : Hid (L ++ batsL (bs.take (k + 1)) = L ++ batsL (bs.take k) ++ (batchL bs[k]).1) := by show _ = _; rw [bats_take bs k hlt, List.append_assoc]
      have hrl := hrecs.len
      unfold maxLen at hrl
      clear hrecs
      generalize bs[k] = X at *
      generalize L ++ batsL (bs.take k) = M at *
      have HR := hid HD.out
      clear HD
      generalize batchL X = Y at *
      obtain ⟨y1, y2⟩ := Y
      simp only at *
      go_wp2_with (first | (go_at_call 88; refine HC.out.mono ?_; rintro e w2 ⟨rfl, hb2⟩; have hb2' := ((Below.refl _ wr).alloc (Nat.le_refl _) _).trans (hb2.mono (by simp)); have hs2 := hb2'.size; have hrow2 := HR.out.1.under (B' := 0) hb2') | (at_builtin; refine wpList_append_str rfl _ _ rfl W0.heap.size _ M rfl hrow2 y1 rfl (by omega) (by omega) ?_; intro v3 w3 hrow3 hb3 hg3))
      go_roundg (bs.length - (k + 1))
      case measure => omega
      case rel =>
        refine ⟨k + 1, v3, by omega, Nat.le_refl _, by go_num, rfl, ?_, ?_, ?_⟩
        · rw [HT2.out]; exact hrow3
        · exact HR.out.2.1.trans ((hb2'.mono (by omega)).trans hb3)
        · exact HR.out.2.2.trans ((Grow.under sv hb2').trans hg3)
    · have hlt' : ¬ (k : Int) < (bs.length : Int) := by omega
      have he : bs.take k = bs := List.take_of_length_le (by omega)
      have HE := hid HD.out
      rw [he] at HE
      clear he
      go_wp2
      go_ret
      exact ⟨_, rfl, by rw [HT.out]; exact HE.out.1, HE.out.2⟩

set_option maxHeartbeats 1600000 in
theorem appEnts_any {W0 w : World} {v : Value} {l : List UInt8} (hW : Below W0.heap.size W0 w) (h : Row w W0.heap.size v l) (a : Option Addr) (cap : Nat) (es : List Ent) (ha : EntsAt W0 a es) (hi : ∀ e ∈ es, e.ok ∧ e.data.length ≤ 2048) (hn : es.length ≤ 64) (hl : l.length ≤ 50000000) :
    Calls Tryd.prog 74 #[v, .slice a es.length cap] w fun e w' => ∃ v', e = .returned v' ∧ Row w' W0.heap.size v' (l ++ putE es) ∧ Below W0.heap.size W0 w' ∧ Grow w w' v v' := by
  have hs := hW.size
  have H71 := hid (one71 h hs (es.length : Int) ⟨by omega, by omega⟩ (by omega))
  have hz := putN_length (es.length : Int)
  have HT : Hid (l ++ putE es = l ++ putN (es.length : Int) ++ entsL es) := by show _ = _; unfold putE; rw [List.append_assoc]
  have hlen : (es.length : Int) ≤ 64 := by omega
  have hL : (l ++ putN (es.length : Int)).length ≤ 50000010 := by simp only [List.length_append]; omega
  have HA := hid ha
  have HI := hid hi
  have HW := hid hW
  clear h ha hi hz hW
  generalize l ++ putN (es.length : Int) = L at *
  go_enter Tryd.func74, Tryd.ntmps74
  go_wp2_with (go_at_call 71; refine H71.out.mono ?_; rintro e w1 ⟨v1, rfl, hrow1, hb1, hg1⟩)
  have H0 : Hid (Row w1 W0.heap.size v1 (L ++ entsL (es.take 0)) ∧ Below W0.heap.size W0 w1 ∧ Grow w w1 v v1) := ⟨by simpa [entsL] using hrow1, HW.out.trans hb1, hg1⟩
  clear hrow1 hb1 hg1 H71
  go_loopg [0, 14] es.length (fun kx s0 s14 wr => ∃ (k : Nat) (sv : Value), k ≤ es.length ∧ es.length - k ≤ kx ∧ s14 = .int .i64 k ∧ sv = s0 ∧ Hid (Row wr W0.heap.size sv (L ++ entsL (es.take k)) ∧ Below W0.heap.size W0 wr ∧ Grow w wr v sv))
  case atStart => exact ⟨0, _, by omega, by omega, rfl, rfl, H0⟩
  case round =>
    obtain ⟨k, sv, hk, hkx, rfl, rfl, HD⟩ := hrel
    clear H0
    by_cases hlt : k < es.length
    · have hlt' : (k : Int) < (es.length : Int) := by omega
      obtain ⟨b, off, rfl, c0, c1, c2⟩ := (HA.out.under HD.out.2.1).at k hlt
      have hbs := HD.out.2.1.size
      have hlen2 : (L ++ entsL (es.take k)).length ≤ 60000000 := by
        have := entsL_length (es.take k) (fun e he => (HI.out e (List.mem_of_mem_take he)).2)
        have h2 : (es.take k).length ≤ 64 := by simp; omega
        simp only [List.length_append]; omega
      obtain ⟨⟨ok1, ok2, ok3⟩, ok4⟩ := HI.out _ (List.getElem_mem hlt)
      have HT2 : Hid (L ++ entsL (es.take (k + 1)) = L ++ entsL (es.take k) ++ intsL [es[k].term, es[k].index] ++ textL es[k].data) := by show _ = _; rw [ents_take es k hlt, entL]; simp only [List.append_assoc]
      have hz2 := intsL_length [es[k].term, es[k].index]
      simp only [List.length_cons, List.length_nil] at hz2
      generalize es[k] = X at *
      generalize L ++ entsL (es.take k) = M at *
      have HR := hid HD.out
      clear HD
      have H48 := hid (two48 (HR.out.1.alloc (.cells #[.int .i64 X.term, .int .i64 X.index, .string (strOf X.data)] 52)) (by simp; omega) X.term X.index ok1 ok2 (by omega))
      rw [show (wr.alloc (.cells #[.int .i64 X.term, .int .i64 X.index, .string (strOf X.data)] 52)).heap.size = wr.heap.size + 1 by simp] at H48
      have H87 : Hid (∀ v1 w1, Row w1 W0.heap.size v1 (M ++ intsL [X.term, X.index]) → W0.heap.size ≤ w1.heap.size → Calls Tryd.prog 87 #[v1, .string (strOf X.data)] w1 fun e w' => ∃ v', e = .returned v' ∧ Row w' W0.heap.size v' (M ++ intsL [X.term, X.index] ++ textL X.data) ∧ Below W0.heap.size w1 w' ∧ Grow w1 w' v1 v') := fun v1 w1 h1 h2 => pText_any h1 h2 X.data (by simp only [List.length_append]; omega)
      have HG0 : Hid (Below W0.heap.size wr (wr.alloc (.cells #[.int .i64 X.term, .int .i64 X.index, .string (strOf X.data)] 52)) ∧ Grow wr (wr.alloc (.cells #[.int .i64 X.term, .int .i64 X.index, .string (strOf X.data)] 52)) sv sv ∧ sv.ownBlock ≠ some wr.heap.size) := ⟨(Below.refl _ _).alloc (by omega) _, (Grow.refl _ _).alloc _, HR.out.1.fresh⟩
      go_wp2_with fail
      refine H48.out.mono ?_
      rintro e w2 ⟨v2, rfl, hrow2, hb2, hg2⟩
      obtain ⟨g1, g2, g3⟩ := hg2.block (q := wr.heap.size) (by simp) HG0.out.2.2
      rw [heap_alloc_new] at g1
      have d2 := cell_blk g1 2 (.string (strOf X.data)) rfl
      have hs2 := hb2.size
      simp at hs2
      clear g1 g2
      go_wp2_with fail
      refine (H87.out _ _ hrow2 (by omega)).mono ?_
      rintro e w3 ⟨v3, rfl, hrow3, hb3, hg3⟩
      go_wp2
      go_roundg (es.length - (k + 1))
      case measure => omega
      case rel =>
        refine ⟨k + 1, v3, by omega, Nat.le_refl _, by go_num, rfl, ?_, ?_, ?_⟩
        · rw [HT2.out]; exact hrow3
        · exact HR.out.2.1.trans (HG0.out.1.trans (hb2.trans hb3))
        · exact HR.out.2.2.trans (HG0.out.2.1.trans (hg2.trans hg3))
    · have hlt' : ¬ (k : Int) < (es.length : Int) := by omega
      have he : es.take k = es := List.take_of_length_le (by omega)
      have HE := hid HD.out
      rw [he] at HE
      clear he
      go_wp2
      go_ret
      exact ⟨_, rfl, by rw [HT.out]; exact HE.out.1, HE.out.2⟩
end Go.Proofs.YtocdlaoklagdoaaDoor
