/- The parts that are written: appendParts, bodyOf. -/
import Derived.Test.YtocdlaoklagdoaaDoorMp
namespace Go.Proofs.YtocdlaoklagdoaaDoor
open Go.RowKit Go.Maps
set_option linter.unusedSimpArgs false
set_option linter.unusedVariables false
set_option maxRecDepth 100000

/-- Where the writer stands: the bytes so far, and the message's box. -/
structure Pt (W0 w : World) (q : Nat) (O : Obj) (v : Value) (l : List UInt8) (n : Nat) : Prop where
  row : Row w W0.heap.size v l
  below : Below W0.heap.size W0 w
  box : w.heap[q]? = some O
  off : v.ownBlock ≠ some q
  len : l.length ≤ n
theorem lt_of_box {w : World} {q : Nat} {O : Obj} (h : w.heap[q]? = some O) : q < w.heap.size := by
  rcases Nat.lt_or_ge q w.heap.size with h1 | h1
  · exact h1
  · rw [Array.getElem?_eq_none h1] at h; cases h
theorem Pt.next {W0 w w1 : World} {q : Nat} {O : Obj} {v v1 : Value} {l : List UInt8} {n : Nat} (h : Pt W0 w q O v l n) {x : List UInt8} {c : Nat} (hr : Row w1 W0.heap.size v1 (l ++ x)) (hb : Below W0.heap.size W0 w1) (hg : Grow w w1 v v1) (hx : x.length ≤ c) : Pt W0 w1 q O v1 (l ++ x) (n + c) := by
  obtain ⟨g1, g2, g3⟩ := hg.block (lt_of_box h.box) h.off
  exact ⟨hr, hb, g1.trans h.box, g2, by have := h.len; simp only [List.length_append]; omega⟩
theorem Pt.size {W0 w : World} {q : Nat} {O : Obj} {v : Value} {l : List UInt8} {n : Nat} (h : Pt W0 w q O v l n) : W0.heap.size ≤ w.heap.size := h.below.size
theorem putT_length (t : List UInt8) : (putT t).length ≤ 10 + t.length := by
  unfold putT
  split
  · simp
  · exact textL_length t
theorem putB_length (l : List Bat) (h : l.length ≤ 64) : (putB l).length ≤ 262154 := by
  have h1 := putN_length (l.length : Int)
  have h2 := batsL_length l
  unfold putB
  simp only [List.length_append]
  omega
theorem putE_length (l : List Ent) (h : l.length ≤ 64) (hd : ∀ e ∈ l, e.data.length ≤ 2048) : (putE l).length ≤ 133002 := by
  have h1 := putN_length (l.length : Int)
  have h2 := entsL_length l hd
  unfold putE
  simp only [List.length_append]
  omega

/-- A message of which nothing is too long but, perhaps, the whole. -/
structure Msg.fit (m : Msg) : Prop where
  ok : m.ok
  name : m.name.length ≤ 32
  text : m.text.length ≤ 65528
  bats : m.bats.length ≤ 64
  ents : m.ents.length ≤ 64
  data : ∀ e ∈ m.ents, e.data.length ≤ 2048
  ints : m.ints.length ≤ 256

theorem from_cells {w : World} {b : Nat} (m : Msg) (k : Nat) (h : w.heap[b]? = some (.cells #[.int .i64 m.n0, .int .i64 m.n1, .int .i64 m.n2, .int .i64 m.n3, .int .i64 m.n4, .int .i64 m.n5, .int .i64 m.n6, .int .i64 m.n7, .int .i64 m.n8, .int .i64 m.n9, .int .i64 m.n10, .int .i64 m.n11, .int .i64 m.n12, .int .i64 m.n13] 83)) (v : Value) (hv : v.ownBlock ≠ some b) : IntsIn w v (some ⟨b, k, none⟩) ((nums m).drop k) := by
  refine .inr ⟨b, k, rfl, lt_of_box h, hv, fun i hi => ?_⟩
  have hl : (nums m).length = 14 := rfl
  rw [List.length_drop, hl] at hi
  refine cell_blk h (k + i) _ ?_
  have e : ((#[.int .i64 m.n0, .int .i64 m.n1, .int .i64 m.n2, .int .i64 m.n3, .int .i64 m.n4, .int .i64 m.n5, .int .i64 m.n6, .int .i64 m.n7, .int .i64 m.n8, .int .i64 m.n9, .int .i64 m.n10, .int .i64 m.n11, .int .i64 m.n12, .int .i64 m.n13] : Array Value)) = ((nums m).map (Value.int .i64)).toArray := rfl
  rw [e]
  simp only [List.getElem?_toArray, List.getElem?_map, List.getElem_drop]
  rw [List.getElem?_eq_getElem (by omega)]
  rfl
theorem sl0 (b : Nat) (W : World) : (Instr.sliceAt 83 (.pointer (some ⟨b, 0, none⟩)) (some (.int .i64 0)) none none).run Tryd.prog W = .ok (.slice (some ⟨b, 0, none⟩) 14 14) W := by kernel_rfl
theorem sl1 (b : Nat) (W : World) : (Instr.sliceAt 83 (.pointer (some ⟨b, 0, none⟩)) (some (.int .i64 1)) none none).run Tryd.prog W = .ok (.slice (some ⟨b, 1, none⟩) 13 13) W := by kernel_rfl
theorem sl2 (b : Nat) (W : World) : (Instr.sliceAt 83 (.pointer (some ⟨b, 0, none⟩)) (some (.int .i64 2)) none none).run Tryd.prog W = .ok (.slice (some ⟨b, 2, none⟩) 12 12) W := by kernel_rfl
theorem sl3 (b : Nat) (W : World) : (Instr.sliceAt 83 (.pointer (some ⟨b, 0, none⟩)) (some (.int .i64 3)) none none).run Tryd.prog W = .ok (.slice (some ⟨b, 3, none⟩) 11 11) W := by kernel_rfl
theorem sl4 (b : Nat) (W : World) : (Instr.sliceAt 83 (.pointer (some ⟨b, 0, none⟩)) (some (.int .i64 4)) none none).run Tryd.prog W = .ok (.slice (some ⟨b, 4, none⟩) 10 10) W := by kernel_rfl
theorem sl5 (b : Nat) (W : World) : (Instr.sliceAt 83 (.pointer (some ⟨b, 0, none⟩)) (some (.int .i64 5)) none none).run Tryd.prog W = .ok (.slice (some ⟨b, 5, none⟩) 9 9) W := by kernel_rfl
theorem sl6 (b : Nat) (W : World) : (Instr.sliceAt 83 (.pointer (some ⟨b, 0, none⟩)) (some (.int .i64 6)) none none).run Tryd.prog W = .ok (.slice (some ⟨b, 6, none⟩) 8 8) W := by kernel_rfl
theorem sl7 (b : Nat) (W : World) : (Instr.sliceAt 83 (.pointer (some ⟨b, 0, none⟩)) (some (.int .i64 7)) none none).run Tryd.prog W = .ok (.slice (some ⟨b, 7, none⟩) 7 7) W := by kernel_rfl
theorem sl8 (b : Nat) (W : World) : (Instr.sliceAt 83 (.pointer (some ⟨b, 0, none⟩)) (some (.int .i64 8)) none none).run Tryd.prog W = .ok (.slice (some ⟨b, 8, none⟩) 6 6) W := by kernel_rfl
theorem sl9 (b : Nat) (W : World) : (Instr.sliceAt 83 (.pointer (some ⟨b, 0, none⟩)) (some (.int .i64 9)) none none).run Tryd.prog W = .ok (.slice (some ⟨b, 9, none⟩) 5 5) W := by kernel_rfl
theorem sl10 (b : Nat) (W : World) : (Instr.sliceAt 83 (.pointer (some ⟨b, 0, none⟩)) (some (.int .i64 10)) none none).run Tryd.prog W = .ok (.slice (some ⟨b, 10, none⟩) 4 4) W := by kernel_rfl
theorem sl11 (b : Nat) (W : World) : (Instr.sliceAt 83 (.pointer (some ⟨b, 0, none⟩)) (some (.int .i64 11)) none none).run Tryd.prog W = .ok (.slice (some ⟨b, 11, none⟩) 3 3) W := by kernel_rfl
theorem sl12 (b : Nat) (W : World) : (Instr.sliceAt 83 (.pointer (some ⟨b, 0, none⟩)) (some (.int .i64 12)) none none).run Tryd.prog W = .ok (.slice (some ⟨b, 12, none⟩) 2 2) W := by kernel_rfl
theorem sl13 (b : Nat) (W : World) : (Instr.sliceAt 83 (.pointer (some ⟨b, 0, none⟩)) (some (.int .i64 13)) none none).run Tryd.prog W = .ok (.slice (some ⟨b, 13, none⟩) 1 1) W := by kernel_rfl
theorem slice83 (b k : Nat) (hk : k < 14) (W : World) : (Instr.sliceAt 83 (.pointer (some ⟨b, 0, none⟩)) (some (.int .i64 (k : Int))) none none).run Tryd.prog W = .ok (.slice (some ⟨b, k, none⟩) (14 - k) (14 - k)) W := by
  match k, hk with
  | 0, _ => exact sl0 b W
  | 1, _ => exact sl1 b W
  | 2, _ => exact sl2 b W
  | 3, _ => exact sl3 b W
  | 4, _ => exact sl4 b W
  | 5, _ => exact sl5 b W
  | 6, _ => exact sl6 b W
  | 7, _ => exact sl7 b W
  | 8, _ => exact sl8 b W
  | 9, _ => exact sl9 b W
  | 10, _ => exact sl10 b W
  | 11, _ => exact sl11 b W
  | 12, _ => exact sl12 b W
  | 13, _ => exact sl13 b W
theorem mem_drop_nums {m : Msg} (hk : m.ok) (k : Nat) : ∀ n ∈ (nums m).drop k, I64 n := fun n hn => hk.nums n (List.mem_of_mem_drop hn)

theorem pt_start {W0 w : World} {v : Value} {l : List UInt8} (hW : Below W0.heap.size W0 w) (h : Row w W0.heap.size v l) (hl : l.length ≤ 20) (O0 : Obj) : ∀ w1, Below (w.alloc O0).heap.size (w.alloc O0) w1 → ∀ O, Pt W0 (w1.alloc O) w.heap.size O0 v l 20 ∧ Grow w (w1.alloc O) v v ∧ w.heap.size < w1.heap.size ∧ v.ownBlock ≠ some w1.heap.size := fun w1 h1 O => by
  have hX := (Boxed.laid w O0).next h1
  have hb := hX.below
  refine ⟨⟨(h.under (B' := 0) hb).alloc O, hW.trans ((hb.mono hW.size).alloc (Nat.le_trans hW.size hb.size) O), ?_, h.fresh, hl⟩, (Grow.under v hb).alloc O, hX.lt, ?_⟩
  · rw [Below.heap_alloc w1 O w.heap.size hX.lt]
    exact hX.box
  · intro e
    have h2 := (World.ownsRow.lt h _ e).2
    have h3 := hX.lt
    omega

set_option maxHeartbeats 1600000 in
theorem ap_low {W0 w : World} {v : Value} {l : List UInt8} (hW : Below W0.heap.size W0 w) (h : Row w W0.heap.size v l) (hl : l.length ≤ 20) (m : Msg) (ba : Option Addr) (bc : Nat) (ea : Option Addr) (ec : Nat) (ia : Option Addr) (ic : Nat) (hk : m.fit) (hh : Here W0 m ba ea ia) (k : Nat) (h14 : k < 14) :
    Calls Tryd.prog 49 #[v, .agg #[.int .i64 m.kind, .int .i64 m.n0, .int .i64 m.n1, .int .i64 m.n2, .int .i64 m.n3, .int .i64 m.n4, .int .i64 m.n5, .int .i64 m.n6, .int .i64 m.n7, .int .i64 m.n8, .int .i64 m.n9, .int .i64 m.n10, .int .i64 m.n11, .int .i64 m.n12, .int .i64 m.n13, .int .i64 m.err, .string (strOf m.name), .string (strOf m.text), .slice ba m.bats.length bc, .slice ea m.ents.length ec, .slice ia m.ints.length ic], .int .i64 (k : Int)] w fun e w' => ∃ v', e = .returned v' ∧ Row w' W0.heap.size v' (l ++ (putNs ((nums m).drop k) ++ tail14 m)) ∧ Below W0.heap.size W0 w' ∧ Grow w w' v v' := by
  have HK := hid hk
  have HH := hid hh
  have hbl := hk.bats
  have hel := hk.ents
  have hil := hk.ints
  have H63 := hid (fun W => numbersOf_any m.kind m.n0 m.n1 m.n2 m.n3 m.n4 m.n5 m.n6 m.n7 m.n8 m.n9 m.n10 m.n11 m.n12 m.n13 m.err (strOf m.name) (strOf m.text) ba ea ia m.bats.length bc m.ents.length ec m.ints.length ic W)
  have X0 := hid (Boxed.laid w (.cells #[.int .i64 m.kind, .int .i64 m.n0, .int .i64 m.n1, .int .i64 m.n2, .int .i64 m.n3, .int .i64 m.n4, .int .i64 m.n5, .int .i64 m.n6, .int .i64 m.n7, .int .i64 m.n8, .int .i64 m.n9, .int .i64 m.n10, .int .i64 m.n11, .int .i64 m.n12, .int .i64 m.n13, .int .i64 m.err, .string (strOf m.name), .string (strOf m.text), .slice ba m.bats.length bc, .slice ea m.ents.length ec, .slice ia m.ints.length ic] 27))
  have P0 := hid (pt_start hW h hl (.cells #[.int .i64 m.kind, .int .i64 m.n0, .int .i64 m.n1, .int .i64 m.n2, .int .i64 m.n3, .int .i64 m.n4, .int .i64 m.n5, .int .i64 m.n6, .int .i64 m.n7, .int .i64 m.n8, .int .i64 m.n9, .int .i64 m.n10, .int .i64 m.n11, .int .i64 m.n12, .int .i64 m.n13, .int .i64 m.err, .string (strOf m.name), .string (strOf m.text), .slice ba m.bats.length bc, .slice ea m.ents.length ec, .slice ia m.ints.length ic] 27))
  clear hW h hl hh hk
  · have h14' : (k : Int) < 14 := by omega
    have hsl : ∀ b W, (Instr.sliceAt 83 (.pointer (some ⟨b, 0, none⟩)) (some (.int .i64 (k : Int))) none none).run Tryd.prog W = .ok (.slice (some ⟨b, k, none⟩) (14 - k) (14 - k)) W := fun b W => slice83 b k h14 W
    go_enter Tryd.func49, Tryd.ntmps49
    go_wp2_with (first | (refine wpList_load_row rfl 27 _ rfl w.heap.size rfl 27 _ (0, 0) _ X0.out.box Tryd.underlying27 rfl size27 ?_) | (go_at_call 63; refine (H63.out _).mono ?_; rintro e w1 ⟨rfl, hb1⟩; obtain ⟨p1, p2, p3, p4⟩ := P0.out w1 hb1 (.cells #[.int .i64 m.n0, .int .i64 m.n1, .int .i64 m.n2, .int .i64 m.n3, .int .i64 m.n4, .int .i64 m.n5, .int .i64 m.n6, .int .i64 m.n7, .int .i64 m.n8, .int .i64 m.n9, .int .i64 m.n10, .int .i64 m.n11, .int .i64 m.n12, .int .i64 m.n13] 83); have P := hid p1; have HG := hid p2; have HV := hid p4; clear hb1 p1 p2 p4))
    have H1 : Hid (Calls Tryd.prog 71 #[v, .slice (some ⟨w1.heap.size, k, none⟩) (14 - k) (14 - k)] (w1.alloc (.cells #[.int .i64 m.n0, .int .i64 m.n1, .int .i64 m.n2, .int .i64 m.n3, .int .i64 m.n4, .int .i64 m.n5, .int .i64 m.n6, .int .i64 m.n7, .int .i64 m.n8, .int .i64 m.n9, .int .i64 m.n10, .int .i64 m.n11, .int .i64 m.n12, .int .i64 m.n13] 83)) fun e w' => ∃ v', e = .returned v' ∧ Row w' W0.heap.size v' (l ++ putNs ((nums m).drop k)) ∧ Below W0.heap.size (w1.alloc (.cells #[.int .i64 m.n0, .int .i64 m.n1, .int .i64 m.n2, .int .i64 m.n3, .int .i64 m.n4, .int .i64 m.n5, .int .i64 m.n6, .int .i64 m.n7, .int .i64 m.n8, .int .i64 m.n9, .int .i64 m.n10, .int .i64 m.n11, .int .i64 m.n12, .int .i64 m.n13] 83)) w' ∧ Grow (w1.alloc (.cells #[.int .i64 m.n0, .int .i64 m.n1, .int .i64 m.n2, .int .i64 m.n3, .int .i64 m.n4, .int .i64 m.n5, .int .i64 m.n6, .int .i64 m.n7, .int .i64 m.n8, .int .i64 m.n9, .int .i64 m.n10, .int .i64 m.n11, .int .i64 m.n12, .int .i64 m.n13] 83)) w' v v') := by
      have e : ((nums m).drop k).length = 14 - k := by rw [List.length_drop]; rfl
      have := appNums_any P.out.row P.out.size (some ⟨w1.heap.size, k, none⟩) (14 - k) ((nums m).drop k) (from_cells m k (heap_alloc_new w1 _) v HV.out) (mem_drop_nums HK.out.ok k) (by have := P.out.len; rw [e]; omega)
      rw [e] at this
      exact this
    have hdl : Hid ((putNs ((nums m).drop k)).length ≤ 140) := by
      have := putNs_length ((nums m).drop k)
      have e : ((nums m).drop k).length ≤ 14 := by rw [List.length_drop]; exact Nat.sub_le _ _
      show _ ≤ _
      omega
    go_wp2_with fail
    refine H1.out.mono ?_
    rintro e w9 ⟨v9, rfl, hrow9, hb9, hg9⟩
    have P1 := hid (P.out.next hrow9 (P.out.below.trans hb9) hg9 hdl.out)
    have G1 := hid (HG.out.trans hg9)
    clear hsl H1 hdl hrow9 hb9 hg9 P HG HV p3
    have z2 := P1.out.size
    have s2 := lt_of_box P1.out.box
    have c2 := cell_blk P1.out.box 15 (.int .i64 m.err) rfl
    have H2 := hid (one71 P1.out.row P1.out.size m.err HK.out.ok.err (by have := P1.out.len; omega))
    go_wp2_with fail
    refine H2.out.mono ?_
    rintro e w2 ⟨v2, rfl, hrow2, hb2, hg2⟩
    have hb2 := P1.out.below.trans hb2
    have P2 := hid (P1.out.next hrow2 hb2 hg2 (putN_length _))
    have G2 := hid (G1.out.trans hg2)
    clear z2 s2 c2 H2 hrow2 hb2 hg2
    have z3 := P2.out.size
    have s3 := lt_of_box P2.out.box
    have c3 := cell_blk P2.out.box 16 (.string (strOf m.name)) rfl
    have H3 := hid (appT_any P2.out.row P2.out.size m.name (by have := P2.out.len; have := HK.out.name; omega))
    go_wp2_with fail
    refine H3.out.mono ?_
    rintro e w3 ⟨v3, rfl, hrow3, hb3, hg3⟩
    have hb3 := P2.out.below.trans hb3
    have P3 := hid (P2.out.next hrow3 hb3 hg3 (by have := putT_length m.name; have := HK.out.name; omega : (putT m.name).length ≤ 42))
    have G3 := hid (G2.out.trans hg3)
    clear z3 s3 c3 H3 hrow3 hb3 hg3
    have z4 := P3.out.size
    have s4 := lt_of_box P3.out.box
    have c4 := cell_blk P3.out.box 17 (.string (strOf m.text)) rfl
    have H4 := hid (appT_any P3.out.row P3.out.size m.text (by have := P3.out.len; have := HK.out.text; omega))
    go_wp2_with fail
    refine H4.out.mono ?_
    rintro e w4 ⟨v4, rfl, hrow4, hb4, hg4⟩
    have hb4 := P3.out.below.trans hb4
    have P4 := hid (P3.out.next hrow4 hb4 hg4 (by have := putT_length m.text; have := HK.out.text; omega : (putT m.text).length ≤ 65538))
    have G4 := hid (G3.out.trans hg4)
    clear z4 s4 c4 H4 hrow4 hb4 hg4
    have z5 := P4.out.size
    have s5 := lt_of_box P4.out.box
    have c5 := cell_blk P4.out.box 18 (.slice ba m.bats.length bc) rfl
    have H5 := hid (appBats_any P4.out.below P4.out.row ba bc m.bats HH.out.bats HK.out.ok.bats HK.out.bats (by have := P4.out.len; omega))
    go_wp2_with fail
    refine H5.out.mono ?_
    rintro e w5 ⟨v5, rfl, hrow5, hb5, hg5⟩
    have P5 := hid (P4.out.next hrow5 hb5 hg5 (putB_length _ HK.out.bats))
    have G5 := hid (G4.out.trans hg5)
    clear z5 s5 c5 H5 hrow5 hb5 hg5
    have z6 := P5.out.size
    have s6 := lt_of_box P5.out.box
    have c6 := cell_blk P5.out.box 19 (.slice ea m.ents.length ec) rfl
    have H6 := hid (appEnts_any P5.out.below P5.out.row ea ec m.ents HH.out.ents (fun e he => ⟨HK.out.ok.ents e he, HK.out.data e he⟩) HK.out.ents (by have := P5.out.len; omega))
    go_wp2_with fail
    refine H6.out.mono ?_
    rintro e w6 ⟨v6, rfl, hrow6, hb6, hg6⟩
    have P6 := hid (P5.out.next hrow6 hb6 hg6 (putE_length _ HK.out.ents HK.out.data))
    have G6 := hid (G5.out.trans hg6)
    clear z6 s6 c6 H6 hrow6 hb6 hg6
    have z7 := P6.out.size
    have s7 := lt_of_box P6.out.box
    have c7 := cell_blk P6.out.box 20 (.slice ia m.ints.length ic) rfl
    have H7 := hid (appIntsL_any P6.out.below P6.out.row ia ic m.ints HH.out.ints HK.out.ok.ints HK.out.ints (by have := P6.out.len; omega))
    go_wp2_with fail
    refine H7.out.mono ?_
    rintro e w7 ⟨v7, rfl, hrow7, hb7, hg7⟩
    go_wp2
    go_ret
    refine ⟨v7, rfl, ?_, hb7, G6.out.trans hg7⟩
    simpa only [tail14, tail15, tail16, tail17, tail18, tail19, List.append_assoc] using hrow7

set_option maxHeartbeats 1600000 in
theorem ap14 {W0 w : World} {v : Value} {l : List UInt8} (hW : Below W0.heap.size W0 w) (h : Row w W0.heap.size v l) (hl : l.length ≤ 20) (m : Msg) (ba : Option Addr) (bc : Nat) (ea : Option Addr) (ec : Nat) (ia : Option Addr) (ic : Nat) (hk : m.fit) (hh : Here W0 m ba ea ia)  :
    Calls Tryd.prog 49 #[v, .agg #[.int .i64 m.kind, .int .i64 m.n0, .int .i64 m.n1, .int .i64 m.n2, .int .i64 m.n3, .int .i64 m.n4, .int .i64 m.n5, .int .i64 m.n6, .int .i64 m.n7, .int .i64 m.n8, .int .i64 m.n9, .int .i64 m.n10, .int .i64 m.n11, .int .i64 m.n12, .int .i64 m.n13, .int .i64 m.err, .string (strOf m.name), .string (strOf m.text), .slice ba m.bats.length bc, .slice ea m.ents.length ec, .slice ia m.ints.length ic], .int .i64 14] w fun e w' => ∃ v', e = .returned v' ∧ Row w' W0.heap.size v' (l ++ tail14 m) ∧ Below W0.heap.size W0 w' ∧ Grow w w' v v' := by
  have HK := hid hk
  have HH := hid hh
  have hbl := hk.bats
  have hel := hk.ents
  have hil := hk.ints
  have H63 := hid (fun W => numbersOf_any m.kind m.n0 m.n1 m.n2 m.n3 m.n4 m.n5 m.n6 m.n7 m.n8 m.n9 m.n10 m.n11 m.n12 m.n13 m.err (strOf m.name) (strOf m.text) ba ea ia m.bats.length bc m.ents.length ec m.ints.length ic W)
  have X0 := hid (Boxed.laid w (.cells #[.int .i64 m.kind, .int .i64 m.n0, .int .i64 m.n1, .int .i64 m.n2, .int .i64 m.n3, .int .i64 m.n4, .int .i64 m.n5, .int .i64 m.n6, .int .i64 m.n7, .int .i64 m.n8, .int .i64 m.n9, .int .i64 m.n10, .int .i64 m.n11, .int .i64 m.n12, .int .i64 m.n13, .int .i64 m.err, .string (strOf m.name), .string (strOf m.text), .slice ba m.bats.length bc, .slice ea m.ents.length ec, .slice ia m.ints.length ic] 27))
  have P0 := hid (pt_start hW h hl (.cells #[.int .i64 m.kind, .int .i64 m.n0, .int .i64 m.n1, .int .i64 m.n2, .int .i64 m.n3, .int .i64 m.n4, .int .i64 m.n5, .int .i64 m.n6, .int .i64 m.n7, .int .i64 m.n8, .int .i64 m.n9, .int .i64 m.n10, .int .i64 m.n11, .int .i64 m.n12, .int .i64 m.n13, .int .i64 m.err, .string (strOf m.name), .string (strOf m.text), .slice ba m.bats.length bc, .slice ea m.ents.length ec, .slice ia m.ints.length ic] 27))
  clear hW h hl hh hk
  · go_enter Tryd.func49, Tryd.ntmps49
    go_wp2_with (first | (refine wpList_load_row rfl 27 _ rfl w.heap.size rfl 27 _ (0, 0) _ X0.out.box Tryd.underlying27 rfl size27 ?_) | (go_at_call 63; refine (H63.out _).mono ?_; rintro e w1 ⟨rfl, hb1⟩; obtain ⟨p1, p2, p3, p4⟩ := P0.out w1 hb1 (.cells #[.int .i64 m.n0, .int .i64 m.n1, .int .i64 m.n2, .int .i64 m.n3, .int .i64 m.n4, .int .i64 m.n5, .int .i64 m.n6, .int .i64 m.n7, .int .i64 m.n8, .int .i64 m.n9, .int .i64 m.n10, .int .i64 m.n11, .int .i64 m.n12, .int .i64 m.n13] 83); have P := hid p1; have HG := hid p2; have C := cell_blk p1.box 15 (.int .i64 m.err) rfl; clear hb1 p1 p2 p4) | fail)
    have z2 := P.out.size
    have s2 := lt_of_box P.out.box
    have c2 := cell_blk P.out.box 15 (.int .i64 m.err) rfl
    have H2 := hid (one71 P.out.row P.out.size m.err HK.out.ok.err (by have := P.out.len; omega))
    rw [show (w1.alloc (.cells #[.int .i64 m.n0, .int .i64 m.n1, .int .i64 m.n2, .int .i64 m.n3, .int .i64 m.n4, .int .i64 m.n5, .int .i64 m.n6, .int .i64 m.n7, .int .i64 m.n8, .int .i64 m.n9, .int .i64 m.n10, .int .i64 m.n11, .int .i64 m.n12, .int .i64 m.n13] 83)).heap.size = w1.heap.size + 1 by simp] at H2
    go_wp2_with fail
    refine H2.out.mono ?_
    rintro e w2 ⟨v2, rfl, hrow2, hb2, hg2⟩
    have hb2 := P.out.below.trans hb2
    have P2 := hid (P.out.next hrow2 hb2 hg2 (putN_length _))
    have G2 := hid (HG.out.trans hg2)
    clear z2 s2 c2 H2 hrow2 hb2 hg2
    have z3 := P2.out.size
    have s3 := lt_of_box P2.out.box
    have c3 := cell_blk P2.out.box 16 (.string (strOf m.name)) rfl
    have H3 := hid (appT_any P2.out.row P2.out.size m.name (by have := P2.out.len; have := HK.out.name; omega))
    go_wp2_with fail
    refine H3.out.mono ?_
    rintro e w3 ⟨v3, rfl, hrow3, hb3, hg3⟩
    have hb3 := P2.out.below.trans hb3
    have P3 := hid (P2.out.next hrow3 hb3 hg3 (by have := putT_length m.name; have := HK.out.name; omega : (putT m.name).length ≤ 42))
    have G3 := hid (G2.out.trans hg3)
    clear z3 s3 c3 H3 hrow3 hb3 hg3
    have z4 := P3.out.size
    have s4 := lt_of_box P3.out.box
    have c4 := cell_blk P3.out.box 17 (.string (strOf m.text)) rfl
    have H4 := hid (appT_any P3.out.row P3.out.size m.text (by have := P3.out.len; have := HK.out.text; omega))
    go_wp2_with fail
    refine H4.out.mono ?_
    rintro e w4 ⟨v4, rfl, hrow4, hb4, hg4⟩
    have hb4 := P3.out.below.trans hb4
    have P4 := hid (P3.out.next hrow4 hb4 hg4 (by have := putT_length m.text; have := HK.out.text; omega : (putT m.text).length ≤ 65538))
    have G4 := hid (G3.out.trans hg4)
    clear z4 s4 c4 H4 hrow4 hb4 hg4
    have z5 := P4.out.size
    have s5 := lt_of_box P4.out.box
    have c5 := cell_blk P4.out.box 18 (.slice ba m.bats.length bc) rfl
    have H5 := hid (appBats_any P4.out.below P4.out.row ba bc m.bats HH.out.bats HK.out.ok.bats HK.out.bats (by have := P4.out.len; omega))
    go_wp2_with fail
    refine H5.out.mono ?_
    rintro e w5 ⟨v5, rfl, hrow5, hb5, hg5⟩
    have P5 := hid (P4.out.next hrow5 hb5 hg5 (putB_length _ HK.out.bats))
    have G5 := hid (G4.out.trans hg5)
    clear z5 s5 c5 H5 hrow5 hb5 hg5
    have z6 := P5.out.size
    have s6 := lt_of_box P5.out.box
    have c6 := cell_blk P5.out.box 19 (.slice ea m.ents.length ec) rfl
    have H6 := hid (appEnts_any P5.out.below P5.out.row ea ec m.ents HH.out.ents (fun e he => ⟨HK.out.ok.ents e he, HK.out.data e he⟩) HK.out.ents (by have := P5.out.len; omega))
    go_wp2_with fail
    refine H6.out.mono ?_
    rintro e w6 ⟨v6, rfl, hrow6, hb6, hg6⟩
    have P6 := hid (P5.out.next hrow6 hb6 hg6 (putE_length _ HK.out.ents HK.out.data))
    have G6 := hid (G5.out.trans hg6)
    clear z6 s6 c6 H6 hrow6 hb6 hg6
    have z7 := P6.out.size
    have s7 := lt_of_box P6.out.box
    have c7 := cell_blk P6.out.box 20 (.slice ia m.ints.length ic) rfl
    have H7 := hid (appIntsL_any P6.out.below P6.out.row ia ic m.ints HH.out.ints HK.out.ok.ints HK.out.ints (by have := P6.out.len; omega))
    go_wp2_with fail
    refine H7.out.mono ?_
    rintro e w7 ⟨v7, rfl, hrow7, hb7, hg7⟩
    go_wp2
    go_ret
    refine ⟨v7, rfl, ?_, hb7, G6.out.trans hg7⟩
    simpa only [tail14, tail15, tail16, tail17, tail18, tail19, List.append_assoc] using hrow7

set_option maxHeartbeats 1600000 in
theorem ap15 {W0 w : World} {v : Value} {l : List UInt8} (hW : Below W0.heap.size W0 w) (h : Row w W0.heap.size v l) (hl : l.length ≤ 20) (m : Msg) (ba : Option Addr) (bc : Nat) (ea : Option Addr) (ec : Nat) (ia : Option Addr) (ic : Nat) (hk : m.fit) (hh : Here W0 m ba ea ia)  :
    Calls Tryd.prog 49 #[v, .agg #[.int .i64 m.kind, .int .i64 m.n0, .int .i64 m.n1, .int .i64 m.n2, .int .i64 m.n3, .int .i64 m.n4, .int .i64 m.n5, .int .i64 m.n6, .int .i64 m.n7, .int .i64 m.n8, .int .i64 m.n9, .int .i64 m.n10, .int .i64 m.n11, .int .i64 m.n12, .int .i64 m.n13, .int .i64 m.err, .string (strOf m.name), .string (strOf m.text), .slice ba m.bats.length bc, .slice ea m.ents.length ec, .slice ia m.ints.length ic], .int .i64 15] w fun e w' => ∃ v', e = .returned v' ∧ Row w' W0.heap.size v' (l ++ tail15 m) ∧ Below W0.heap.size W0 w' ∧ Grow w w' v v' := by
  have HK := hid hk
  have HH := hid hh
  have hbl := hk.bats
  have hel := hk.ents
  have hil := hk.ints
  have H63 := hid (fun W => numbersOf_any m.kind m.n0 m.n1 m.n2 m.n3 m.n4 m.n5 m.n6 m.n7 m.n8 m.n9 m.n10 m.n11 m.n12 m.n13 m.err (strOf m.name) (strOf m.text) ba ea ia m.bats.length bc m.ents.length ec m.ints.length ic W)
  have X0 := hid (Boxed.laid w (.cells #[.int .i64 m.kind, .int .i64 m.n0, .int .i64 m.n1, .int .i64 m.n2, .int .i64 m.n3, .int .i64 m.n4, .int .i64 m.n5, .int .i64 m.n6, .int .i64 m.n7, .int .i64 m.n8, .int .i64 m.n9, .int .i64 m.n10, .int .i64 m.n11, .int .i64 m.n12, .int .i64 m.n13, .int .i64 m.err, .string (strOf m.name), .string (strOf m.text), .slice ba m.bats.length bc, .slice ea m.ents.length ec, .slice ia m.ints.length ic] 27))
  have P0 := hid (pt_start hW h hl (.cells #[.int .i64 m.kind, .int .i64 m.n0, .int .i64 m.n1, .int .i64 m.n2, .int .i64 m.n3, .int .i64 m.n4, .int .i64 m.n5, .int .i64 m.n6, .int .i64 m.n7, .int .i64 m.n8, .int .i64 m.n9, .int .i64 m.n10, .int .i64 m.n11, .int .i64 m.n12, .int .i64 m.n13, .int .i64 m.err, .string (strOf m.name), .string (strOf m.text), .slice ba m.bats.length bc, .slice ea m.ents.length ec, .slice ia m.ints.length ic] 27))
  clear hW h hl hh hk
  · go_enter Tryd.func49, Tryd.ntmps49
    go_wp2_with (first | (refine wpList_load_row rfl 27 _ rfl w.heap.size rfl 27 _ (0, 0) _ X0.out.box Tryd.underlying27 rfl size27 ?_) | (go_at_call 63; refine (H63.out _).mono ?_; rintro e w1 ⟨rfl, hb1⟩; obtain ⟨p1, p2, p3, p4⟩ := P0.out w1 hb1 (.cells #[.int .i64 m.n0, .int .i64 m.n1, .int .i64 m.n2, .int .i64 m.n3, .int .i64 m.n4, .int .i64 m.n5, .int .i64 m.n6, .int .i64 m.n7, .int .i64 m.n8, .int .i64 m.n9, .int .i64 m.n10, .int .i64 m.n11, .int .i64 m.n12, .int .i64 m.n13] 83); have P := hid p1; have HG := hid p2; have C := cell_blk p1.box 16 (.string (strOf m.name)) rfl; clear hb1 p1 p2 p4) | fail)
    have z2 := P.out.size
    have s2 := lt_of_box P.out.box
    have c2 := cell_blk P.out.box 16 (.string (strOf m.name)) rfl
    have H2 := hid (appT_any P.out.row P.out.size m.name (by have := P.out.len; have := HK.out.name; omega))
    go_wp2_with fail
    refine H2.out.mono ?_
    rintro e w2 ⟨v2, rfl, hrow2, hb2, hg2⟩
    have hb2 := P.out.below.trans hb2
    have P2 := hid (P.out.next hrow2 hb2 hg2 (by have := putT_length m.name; have := HK.out.name; omega : (putT m.name).length ≤ 42))
    have G2 := hid (HG.out.trans hg2)
    clear z2 s2 c2 H2 hrow2 hb2 hg2
    have z3 := P2.out.size
    have s3 := lt_of_box P2.out.box
    have c3 := cell_blk P2.out.box 17 (.string (strOf m.text)) rfl
    have H3 := hid (appT_any P2.out.row P2.out.size m.text (by have := P2.out.len; have := HK.out.text; omega))
    go_wp2_with fail
    refine H3.out.mono ?_
    rintro e w3 ⟨v3, rfl, hrow3, hb3, hg3⟩
    have hb3 := P2.out.below.trans hb3
    have P3 := hid (P2.out.next hrow3 hb3 hg3 (by have := putT_length m.text; have := HK.out.text; omega : (putT m.text).length ≤ 65538))
    have G3 := hid (G2.out.trans hg3)
    clear z3 s3 c3 H3 hrow3 hb3 hg3
    have z4 := P3.out.size
    have s4 := lt_of_box P3.out.box
    have c4 := cell_blk P3.out.box 18 (.slice ba m.bats.length bc) rfl
    have H4 := hid (appBats_any P3.out.below P3.out.row ba bc m.bats HH.out.bats HK.out.ok.bats HK.out.bats (by have := P3.out.len; omega))
    go_wp2_with fail
    refine H4.out.mono ?_
    rintro e w4 ⟨v4, rfl, hrow4, hb4, hg4⟩
    have P4 := hid (P3.out.next hrow4 hb4 hg4 (putB_length _ HK.out.bats))
    have G4 := hid (G3.out.trans hg4)
    clear z4 s4 c4 H4 hrow4 hb4 hg4
    have z5 := P4.out.size
    have s5 := lt_of_box P4.out.box
    have c5 := cell_blk P4.out.box 19 (.slice ea m.ents.length ec) rfl
    have H5 := hid (appEnts_any P4.out.below P4.out.row ea ec m.ents HH.out.ents (fun e he => ⟨HK.out.ok.ents e he, HK.out.data e he⟩) HK.out.ents (by have := P4.out.len; omega))
    go_wp2_with fail
    refine H5.out.mono ?_
    rintro e w5 ⟨v5, rfl, hrow5, hb5, hg5⟩
    have P5 := hid (P4.out.next hrow5 hb5 hg5 (putE_length _ HK.out.ents HK.out.data))
    have G5 := hid (G4.out.trans hg5)
    clear z5 s5 c5 H5 hrow5 hb5 hg5
    have z6 := P5.out.size
    have s6 := lt_of_box P5.out.box
    have c6 := cell_blk P5.out.box 20 (.slice ia m.ints.length ic) rfl
    have H6 := hid (appIntsL_any P5.out.below P5.out.row ia ic m.ints HH.out.ints HK.out.ok.ints HK.out.ints (by have := P5.out.len; omega))
    go_wp2_with fail
    refine H6.out.mono ?_
    rintro e w6 ⟨v6, rfl, hrow6, hb6, hg6⟩
    go_wp2
    go_ret
    refine ⟨v6, rfl, ?_, hb6, G5.out.trans hg6⟩
    simpa only [tail14, tail15, tail16, tail17, tail18, tail19, List.append_assoc] using hrow6

set_option maxHeartbeats 1600000 in
theorem ap16 {W0 w : World} {v : Value} {l : List UInt8} (hW : Below W0.heap.size W0 w) (h : Row w W0.heap.size v l) (hl : l.length ≤ 20) (m : Msg) (ba : Option Addr) (bc : Nat) (ea : Option Addr) (ec : Nat) (ia : Option Addr) (ic : Nat) (hk : m.fit) (hh : Here W0 m ba ea ia)  :
    Calls Tryd.prog 49 #[v, .agg #[.int .i64 m.kind, .int .i64 m.n0, .int .i64 m.n1, .int .i64 m.n2, .int .i64 m.n3, .int .i64 m.n4, .int .i64 m.n5, .int .i64 m.n6, .int .i64 m.n7, .int .i64 m.n8, .int .i64 m.n9, .int .i64 m.n10, .int .i64 m.n11, .int .i64 m.n12, .int .i64 m.n13, .int .i64 m.err, .string (strOf m.name), .string (strOf m.text), .slice ba m.bats.length bc, .slice ea m.ents.length ec, .slice ia m.ints.length ic], .int .i64 16] w fun e w' => ∃ v', e = .returned v' ∧ Row w' W0.heap.size v' (l ++ tail16 m) ∧ Below W0.heap.size W0 w' ∧ Grow w w' v v' := by
  have HK := hid hk
  have HH := hid hh
  have hbl := hk.bats
  have hel := hk.ents
  have hil := hk.ints
  have H63 := hid (fun W => numbersOf_any m.kind m.n0 m.n1 m.n2 m.n3 m.n4 m.n5 m.n6 m.n7 m.n8 m.n9 m.n10 m.n11 m.n12 m.n13 m.err (strOf m.name) (strOf m.text) ba ea ia m.bats.length bc m.ents.length ec m.ints.length ic W)
  have X0 := hid (Boxed.laid w (.cells #[.int .i64 m.kind, .int .i64 m.n0, .int .i64 m.n1, .int .i64 m.n2, .int .i64 m.n3, .int .i64 m.n4, .int .i64 m.n5, .int .i64 m.n6, .int .i64 m.n7, .int .i64 m.n8, .int .i64 m.n9, .int .i64 m.n10, .int .i64 m.n11, .int .i64 m.n12, .int .i64 m.n13, .int .i64 m.err, .string (strOf m.name), .string (strOf m.text), .slice ba m.bats.length bc, .slice ea m.ents.length ec, .slice ia m.ints.length ic] 27))
  have P0 := hid (pt_start hW h hl (.cells #[.int .i64 m.kind, .int .i64 m.n0, .int .i64 m.n1, .int .i64 m.n2, .int .i64 m.n3, .int .i64 m.n4, .int .i64 m.n5, .int .i64 m.n6, .int .i64 m.n7, .int .i64 m.n8, .int .i64 m.n9, .int .i64 m.n10, .int .i64 m.n11, .int .i64 m.n12, .int .i64 m.n13, .int .i64 m.err, .string (strOf m.name), .string (strOf m.text), .slice ba m.bats.length bc, .slice ea m.ents.length ec, .slice ia m.ints.length ic] 27))
  clear hW h hl hh hk
  · go_enter Tryd.func49, Tryd.ntmps49
    go_wp2_with (first | (refine wpList_load_row rfl 27 _ rfl w.heap.size rfl 27 _ (0, 0) _ X0.out.box Tryd.underlying27 rfl size27 ?_) | (go_at_call 63; refine (H63.out _).mono ?_; rintro e w1 ⟨rfl, hb1⟩; obtain ⟨p1, p2, p3, p4⟩ := P0.out w1 hb1 (.cells #[.int .i64 m.n0, .int .i64 m.n1, .int .i64 m.n2, .int .i64 m.n3, .int .i64 m.n4, .int .i64 m.n5, .int .i64 m.n6, .int .i64 m.n7, .int .i64 m.n8, .int .i64 m.n9, .int .i64 m.n10, .int .i64 m.n11, .int .i64 m.n12, .int .i64 m.n13] 83); have P := hid p1; have HG := hid p2; have C := cell_blk p1.box 17 (.string (strOf m.text)) rfl; clear hb1 p1 p2 p4) | fail)
    have z2 := P.out.size
    have s2 := lt_of_box P.out.box
    have c2 := cell_blk P.out.box 17 (.string (strOf m.text)) rfl
    have H2 := hid (appT_any P.out.row P.out.size m.text (by have := P.out.len; have := HK.out.text; omega))
    go_wp2_with fail
    refine H2.out.mono ?_
    rintro e w2 ⟨v2, rfl, hrow2, hb2, hg2⟩
    have hb2 := P.out.below.trans hb2
    have P2 := hid (P.out.next hrow2 hb2 hg2 (by have := putT_length m.text; have := HK.out.text; omega : (putT m.text).length ≤ 65538))
    have G2 := hid (HG.out.trans hg2)
    clear z2 s2 c2 H2 hrow2 hb2 hg2
    have z3 := P2.out.size
    have s3 := lt_of_box P2.out.box
    have c3 := cell_blk P2.out.box 18 (.slice ba m.bats.length bc) rfl
    have H3 := hid (appBats_any P2.out.below P2.out.row ba bc m.bats HH.out.bats HK.out.ok.bats HK.out.bats (by have := P2.out.len; omega))
    go_wp2_with fail
    refine H3.out.mono ?_
    rintro e w3 ⟨v3, rfl, hrow3, hb3, hg3⟩
    have P3 := hid (P2.out.next hrow3 hb3 hg3 (putB_length _ HK.out.bats))
    have G3 := hid (G2.out.trans hg3)
    clear z3 s3 c3 H3 hrow3 hb3 hg3
    have z4 := P3.out.size
    have s4 := lt_of_box P3.out.box
    have c4 := cell_blk P3.out.box 19 (.slice ea m.ents.length ec) rfl
    have H4 := hid (appEnts_any P3.out.below P3.out.row ea ec m.ents HH.out.ents (fun e he => ⟨HK.out.ok.ents e he, HK.out.data e he⟩) HK.out.ents (by have := P3.out.len; omega))
    go_wp2_with fail
    refine H4.out.mono ?_
    rintro e w4 ⟨v4, rfl, hrow4, hb4, hg4⟩
    have P4 := hid (P3.out.next hrow4 hb4 hg4 (putE_length _ HK.out.ents HK.out.data))
    have G4 := hid (G3.out.trans hg4)
    clear z4 s4 c4 H4 hrow4 hb4 hg4
    have z5 := P4.out.size
    have s5 := lt_of_box P4.out.box
    have c5 := cell_blk P4.out.box 20 (.slice ia m.ints.length ic) rfl
    have H5 := hid (appIntsL_any P4.out.below P4.out.row ia ic m.ints HH.out.ints HK.out.ok.ints HK.out.ints (by have := P4.out.len; omega))
    go_wp2_with fail
    refine H5.out.mono ?_
    rintro e w5 ⟨v5, rfl, hrow5, hb5, hg5⟩
    go_wp2
    go_ret
    refine ⟨v5, rfl, ?_, hb5, G4.out.trans hg5⟩
    simpa only [tail14, tail15, tail16, tail17, tail18, tail19, List.append_assoc] using hrow5

set_option maxHeartbeats 1600000 in
theorem ap17 {W0 w : World} {v : Value} {l : List UInt8} (hW : Below W0.heap.size W0 w) (h : Row w W0.heap.size v l) (hl : l.length ≤ 20) (m : Msg) (ba : Option Addr) (bc : Nat) (ea : Option Addr) (ec : Nat) (ia : Option Addr) (ic : Nat) (hk : m.fit) (hh : Here W0 m ba ea ia)  :
    Calls Tryd.prog 49 #[v, .agg #[.int .i64 m.kind, .int .i64 m.n0, .int .i64 m.n1, .int .i64 m.n2, .int .i64 m.n3, .int .i64 m.n4, .int .i64 m.n5, .int .i64 m.n6, .int .i64 m.n7, .int .i64 m.n8, .int .i64 m.n9, .int .i64 m.n10, .int .i64 m.n11, .int .i64 m.n12, .int .i64 m.n13, .int .i64 m.err, .string (strOf m.name), .string (strOf m.text), .slice ba m.bats.length bc, .slice ea m.ents.length ec, .slice ia m.ints.length ic], .int .i64 17] w fun e w' => ∃ v', e = .returned v' ∧ Row w' W0.heap.size v' (l ++ tail17 m) ∧ Below W0.heap.size W0 w' ∧ Grow w w' v v' := by
  have HK := hid hk
  have HH := hid hh
  have hbl := hk.bats
  have hel := hk.ents
  have hil := hk.ints
  have H63 := hid (fun W => numbersOf_any m.kind m.n0 m.n1 m.n2 m.n3 m.n4 m.n5 m.n6 m.n7 m.n8 m.n9 m.n10 m.n11 m.n12 m.n13 m.err (strOf m.name) (strOf m.text) ba ea ia m.bats.length bc m.ents.length ec m.ints.length ic W)
  have X0 := hid (Boxed.laid w (.cells #[.int .i64 m.kind, .int .i64 m.n0, .int .i64 m.n1, .int .i64 m.n2, .int .i64 m.n3, .int .i64 m.n4, .int .i64 m.n5, .int .i64 m.n6, .int .i64 m.n7, .int .i64 m.n8, .int .i64 m.n9, .int .i64 m.n10, .int .i64 m.n11, .int .i64 m.n12, .int .i64 m.n13, .int .i64 m.err, .string (strOf m.name), .string (strOf m.text), .slice ba m.bats.length bc, .slice ea m.ents.length ec, .slice ia m.ints.length ic] 27))
  have P0 := hid (pt_start hW h hl (.cells #[.int .i64 m.kind, .int .i64 m.n0, .int .i64 m.n1, .int .i64 m.n2, .int .i64 m.n3, .int .i64 m.n4, .int .i64 m.n5, .int .i64 m.n6, .int .i64 m.n7, .int .i64 m.n8, .int .i64 m.n9, .int .i64 m.n10, .int .i64 m.n11, .int .i64 m.n12, .int .i64 m.n13, .int .i64 m.err, .string (strOf m.name), .string (strOf m.text), .slice ba m.bats.length bc, .slice ea m.ents.length ec, .slice ia m.ints.length ic] 27))
  clear hW h hl hh hk
  · go_enter Tryd.func49, Tryd.ntmps49
    go_wp2_with (first | (refine wpList_load_row rfl 27 _ rfl w.heap.size rfl 27 _ (0, 0) _ X0.out.box Tryd.underlying27 rfl size27 ?_) | (go_at_call 63; refine (H63.out _).mono ?_; rintro e w1 ⟨rfl, hb1⟩; obtain ⟨p1, p2, p3, p4⟩ := P0.out w1 hb1 (.cells #[.int .i64 m.n0, .int .i64 m.n1, .int .i64 m.n2, .int .i64 m.n3, .int .i64 m.n4, .int .i64 m.n5, .int .i64 m.n6, .int .i64 m.n7, .int .i64 m.n8, .int .i64 m.n9, .int .i64 m.n10, .int .i64 m.n11, .int .i64 m.n12, .int .i64 m.n13] 83); have P := hid p1; have HG := hid p2; have C := cell_blk p1.box 18 (.slice ba m.bats.length bc) rfl; clear hb1 p1 p2 p4) | fail)
    have z2 := P.out.size
    have s2 := lt_of_box P.out.box
    have c2 := cell_blk P.out.box 18 (.slice ba m.bats.length bc) rfl
    have H2 := hid (appBats_any P.out.below P.out.row ba bc m.bats HH.out.bats HK.out.ok.bats HK.out.bats (by have := P.out.len; omega))
    go_wp2_with fail
    refine H2.out.mono ?_
    rintro e w2 ⟨v2, rfl, hrow2, hb2, hg2⟩
    have P2 := hid (P.out.next hrow2 hb2 hg2 (putB_length _ HK.out.bats))
    have G2 := hid (HG.out.trans hg2)
    clear z2 s2 c2 H2 hrow2 hb2 hg2
    have z3 := P2.out.size
    have s3 := lt_of_box P2.out.box
    have c3 := cell_blk P2.out.box 19 (.slice ea m.ents.length ec) rfl
    have H3 := hid (appEnts_any P2.out.below P2.out.row ea ec m.ents HH.out.ents (fun e he => ⟨HK.out.ok.ents e he, HK.out.data e he⟩) HK.out.ents (by have := P2.out.len; omega))
    go_wp2_with fail
    refine H3.out.mono ?_
    rintro e w3 ⟨v3, rfl, hrow3, hb3, hg3⟩
    have P3 := hid (P2.out.next hrow3 hb3 hg3 (putE_length _ HK.out.ents HK.out.data))
    have G3 := hid (G2.out.trans hg3)
    clear z3 s3 c3 H3 hrow3 hb3 hg3
    have z4 := P3.out.size
    have s4 := lt_of_box P3.out.box
    have c4 := cell_blk P3.out.box 20 (.slice ia m.ints.length ic) rfl
    have H4 := hid (appIntsL_any P3.out.below P3.out.row ia ic m.ints HH.out.ints HK.out.ok.ints HK.out.ints (by have := P3.out.len; omega))
    go_wp2_with fail
    refine H4.out.mono ?_
    rintro e w4 ⟨v4, rfl, hrow4, hb4, hg4⟩
    go_wp2
    go_ret
    refine ⟨v4, rfl, ?_, hb4, G3.out.trans hg4⟩
    simpa only [tail14, tail15, tail16, tail17, tail18, tail19, List.append_assoc] using hrow4

set_option maxHeartbeats 1600000 in
theorem ap18 {W0 w : World} {v : Value} {l : List UInt8} (hW : Below W0.heap.size W0 w) (h : Row w W0.heap.size v l) (hl : l.length ≤ 20) (m : Msg) (ba : Option Addr) (bc : Nat) (ea : Option Addr) (ec : Nat) (ia : Option Addr) (ic : Nat) (hk : m.fit) (hh : Here W0 m ba ea ia)  :
    Calls Tryd.prog 49 #[v, .agg #[.int .i64 m.kind, .int .i64 m.n0, .int .i64 m.n1, .int .i64 m.n2, .int .i64 m.n3, .int .i64 m.n4, .int .i64 m.n5, .int .i64 m.n6, .int .i64 m.n7, .int .i64 m.n8, .int .i64 m.n9, .int .i64 m.n10, .int .i64 m.n11, .int .i64 m.n12, .int .i64 m.n13, .int .i64 m.err, .string (strOf m.name), .string (strOf m.text), .slice ba m.bats.length bc, .slice ea m.ents.length ec, .slice ia m.ints.length ic], .int .i64 18] w fun e w' => ∃ v', e = .returned v' ∧ Row w' W0.heap.size v' (l ++ tail18 m) ∧ Below W0.heap.size W0 w' ∧ Grow w w' v v' := by
  have HK := hid hk
  have HH := hid hh
  have hbl := hk.bats
  have hel := hk.ents
  have hil := hk.ints
  have H63 := hid (fun W => numbersOf_any m.kind m.n0 m.n1 m.n2 m.n3 m.n4 m.n5 m.n6 m.n7 m.n8 m.n9 m.n10 m.n11 m.n12 m.n13 m.err (strOf m.name) (strOf m.text) ba ea ia m.bats.length bc m.ents.length ec m.ints.length ic W)
  have X0 := hid (Boxed.laid w (.cells #[.int .i64 m.kind, .int .i64 m.n0, .int .i64 m.n1, .int .i64 m.n2, .int .i64 m.n3, .int .i64 m.n4, .int .i64 m.n5, .int .i64 m.n6, .int .i64 m.n7, .int .i64 m.n8, .int .i64 m.n9, .int .i64 m.n10, .int .i64 m.n11, .int .i64 m.n12, .int .i64 m.n13, .int .i64 m.err, .string (strOf m.name), .string (strOf m.text), .slice ba m.bats.length bc, .slice ea m.ents.length ec, .slice ia m.ints.length ic] 27))
  have P0 := hid (pt_start hW h hl (.cells #[.int .i64 m.kind, .int .i64 m.n0, .int .i64 m.n1, .int .i64 m.n2, .int .i64 m.n3, .int .i64 m.n4, .int .i64 m.n5, .int .i64 m.n6, .int .i64 m.n7, .int .i64 m.n8, .int .i64 m.n9, .int .i64 m.n10, .int .i64 m.n11, .int .i64 m.n12, .int .i64 m.n13, .int .i64 m.err, .string (strOf m.name), .string (strOf m.text), .slice ba m.bats.length bc, .slice ea m.ents.length ec, .slice ia m.ints.length ic] 27))
  clear hW h hl hh hk
  · go_enter Tryd.func49, Tryd.ntmps49
    go_wp2_with (first | (refine wpList_load_row rfl 27 _ rfl w.heap.size rfl 27 _ (0, 0) _ X0.out.box Tryd.underlying27 rfl size27 ?_) | (go_at_call 63; refine (H63.out _).mono ?_; rintro e w1 ⟨rfl, hb1⟩; obtain ⟨p1, p2, p3, p4⟩ := P0.out w1 hb1 (.cells #[.int .i64 m.n0, .int .i64 m.n1, .int .i64 m.n2, .int .i64 m.n3, .int .i64 m.n4, .int .i64 m.n5, .int .i64 m.n6, .int .i64 m.n7, .int .i64 m.n8, .int .i64 m.n9, .int .i64 m.n10, .int .i64 m.n11, .int .i64 m.n12, .int .i64 m.n13] 83); have P := hid p1; have HG := hid p2; have C := cell_blk p1.box 19 (.slice ea m.ents.length ec) rfl; clear hb1 p1 p2 p4) | fail)
    have z2 := P.out.size
    have s2 := lt_of_box P.out.box
    have c2 := cell_blk P.out.box 19 (.slice ea m.ents.length ec) rfl
    have H2 := hid (appEnts_any P.out.below P.out.row ea ec m.ents HH.out.ents (fun e he => ⟨HK.out.ok.ents e he, HK.out.data e he⟩) HK.out.ents (by have := P.out.len; omega))
    go_wp2_with fail
    refine H2.out.mono ?_
    rintro e w2 ⟨v2, rfl, hrow2, hb2, hg2⟩
    have P2 := hid (P.out.next hrow2 hb2 hg2 (putE_length _ HK.out.ents HK.out.data))
    have G2 := hid (HG.out.trans hg2)
    clear z2 s2 c2 H2 hrow2 hb2 hg2
    have z3 := P2.out.size
    have s3 := lt_of_box P2.out.box
    have c3 := cell_blk P2.out.box 20 (.slice ia m.ints.length ic) rfl
    have H3 := hid (appIntsL_any P2.out.below P2.out.row ia ic m.ints HH.out.ints HK.out.ok.ints HK.out.ints (by have := P2.out.len; omega))
    go_wp2_with fail
    refine H3.out.mono ?_
    rintro e w3 ⟨v3, rfl, hrow3, hb3, hg3⟩
    go_wp2
    go_ret
    refine ⟨v3, rfl, ?_, hb3, G2.out.trans hg3⟩
    simpa only [tail14, tail15, tail16, tail17, tail18, tail19, List.append_assoc] using hrow3

set_option maxHeartbeats 1600000 in
theorem ap19 {W0 w : World} {v : Value} {l : List UInt8} (hW : Below W0.heap.size W0 w) (h : Row w W0.heap.size v l) (hl : l.length ≤ 20) (m : Msg) (ba : Option Addr) (bc : Nat) (ea : Option Addr) (ec : Nat) (ia : Option Addr) (ic : Nat) (hk : m.fit) (hh : Here W0 m ba ea ia)  :
    Calls Tryd.prog 49 #[v, .agg #[.int .i64 m.kind, .int .i64 m.n0, .int .i64 m.n1, .int .i64 m.n2, .int .i64 m.n3, .int .i64 m.n4, .int .i64 m.n5, .int .i64 m.n6, .int .i64 m.n7, .int .i64 m.n8, .int .i64 m.n9, .int .i64 m.n10, .int .i64 m.n11, .int .i64 m.n12, .int .i64 m.n13, .int .i64 m.err, .string (strOf m.name), .string (strOf m.text), .slice ba m.bats.length bc, .slice ea m.ents.length ec, .slice ia m.ints.length ic], .int .i64 19] w fun e w' => ∃ v', e = .returned v' ∧ Row w' W0.heap.size v' (l ++ tail19 m) ∧ Below W0.heap.size W0 w' ∧ Grow w w' v v' := by
  have HK := hid hk
  have HH := hid hh
  have hbl := hk.bats
  have hel := hk.ents
  have hil := hk.ints
  have H63 := hid (fun W => numbersOf_any m.kind m.n0 m.n1 m.n2 m.n3 m.n4 m.n5 m.n6 m.n7 m.n8 m.n9 m.n10 m.n11 m.n12 m.n13 m.err (strOf m.name) (strOf m.text) ba ea ia m.bats.length bc m.ents.length ec m.ints.length ic W)
  have X0 := hid (Boxed.laid w (.cells #[.int .i64 m.kind, .int .i64 m.n0, .int .i64 m.n1, .int .i64 m.n2, .int .i64 m.n3, .int .i64 m.n4, .int .i64 m.n5, .int .i64 m.n6, .int .i64 m.n7, .int .i64 m.n8, .int .i64 m.n9, .int .i64 m.n10, .int .i64 m.n11, .int .i64 m.n12, .int .i64 m.n13, .int .i64 m.err, .string (strOf m.name), .string (strOf m.text), .slice ba m.bats.length bc, .slice ea m.ents.length ec, .slice ia m.ints.length ic] 27))
  have P0 := hid (pt_start hW h hl (.cells #[.int .i64 m.kind, .int .i64 m.n0, .int .i64 m.n1, .int .i64 m.n2, .int .i64 m.n3, .int .i64 m.n4, .int .i64 m.n5, .int .i64 m.n6, .int .i64 m.n7, .int .i64 m.n8, .int .i64 m.n9, .int .i64 m.n10, .int .i64 m.n11, .int .i64 m.n12, .int .i64 m.n13, .int .i64 m.err, .string (strOf m.name), .string (strOf m.text), .slice ba m.bats.length bc, .slice ea m.ents.length ec, .slice ia m.ints.length ic] 27))
  clear hW h hl hh hk
  · go_enter Tryd.func49, Tryd.ntmps49
    go_wp2_with (first | (refine wpList_load_row rfl 27 _ rfl w.heap.size rfl 27 _ (0, 0) _ X0.out.box Tryd.underlying27 rfl size27 ?_) | (go_at_call 63; refine (H63.out _).mono ?_; rintro e w1 ⟨rfl, hb1⟩; obtain ⟨p1, p2, p3, p4⟩ := P0.out w1 hb1 (.cells #[.int .i64 m.n0, .int .i64 m.n1, .int .i64 m.n2, .int .i64 m.n3, .int .i64 m.n4, .int .i64 m.n5, .int .i64 m.n6, .int .i64 m.n7, .int .i64 m.n8, .int .i64 m.n9, .int .i64 m.n10, .int .i64 m.n11, .int .i64 m.n12, .int .i64 m.n13] 83); have P := hid p1; have HG := hid p2; have C := cell_blk p1.box 20 (.slice ia m.ints.length ic) rfl; clear hb1 p1 p2 p4) | fail)
    have z2 := P.out.size
    have s2 := lt_of_box P.out.box
    have c2 := cell_blk P.out.box 20 (.slice ia m.ints.length ic) rfl
    have H2 := hid (appIntsL_any P.out.below P.out.row ia ic m.ints HH.out.ints HK.out.ok.ints HK.out.ints (by have := P.out.len; omega))
    go_wp2_with fail
    refine H2.out.mono ?_
    rintro e w2 ⟨v2, rfl, hrow2, hb2, hg2⟩
    go_wp2
    go_ret
    refine ⟨v2, rfl, ?_, hb2, HG.out.trans hg2⟩
    simpa only [tail14, tail15, tail16, tail17, tail18, tail19, List.append_assoc] using hrow2

set_option maxHeartbeats 1600000 in
theorem ap_none {W0 w : World} {v : Value} {l : List UInt8} (hW : Below W0.heap.size W0 w) (h : Row w W0.heap.size v l) (hl : l.length ≤ 20) (m : Msg) (ba : Option Addr) (bc : Nat) (ea : Option Addr) (ec : Nat) (ia : Option Addr) (ic : Nat) (hk : m.fit) (hh : Here W0 m ba ea ia) (k : Nat) (h20 : 20 ≤ k) (h64 : k ≤ 64) :
    Calls Tryd.prog 49 #[v, .agg #[.int .i64 m.kind, .int .i64 m.n0, .int .i64 m.n1, .int .i64 m.n2, .int .i64 m.n3, .int .i64 m.n4, .int .i64 m.n5, .int .i64 m.n6, .int .i64 m.n7, .int .i64 m.n8, .int .i64 m.n9, .int .i64 m.n10, .int .i64 m.n11, .int .i64 m.n12, .int .i64 m.n13, .int .i64 m.err, .string (strOf m.name), .string (strOf m.text), .slice ba m.bats.length bc, .slice ea m.ents.length ec, .slice ia m.ints.length ic], .int .i64 (k : Int)] w fun e w' => ∃ v', e = .returned v' ∧ Row w' W0.heap.size v' (l ++ []) ∧ Below W0.heap.size W0 w' ∧ Grow w w' v v' := by
  have HK := hid hk
  have HH := hid hh
  have hbl := hk.bats
  have hel := hk.ents
  have hil := hk.ints
  have H63 := hid (fun W => numbersOf_any m.kind m.n0 m.n1 m.n2 m.n3 m.n4 m.n5 m.n6 m.n7 m.n8 m.n9 m.n10 m.n11 m.n12 m.n13 m.err (strOf m.name) (strOf m.text) ba ea ia m.bats.length bc m.ents.length ec m.ints.length ic W)
  have X0 := hid (Boxed.laid w (.cells #[.int .i64 m.kind, .int .i64 m.n0, .int .i64 m.n1, .int .i64 m.n2, .int .i64 m.n3, .int .i64 m.n4, .int .i64 m.n5, .int .i64 m.n6, .int .i64 m.n7, .int .i64 m.n8, .int .i64 m.n9, .int .i64 m.n10, .int .i64 m.n11, .int .i64 m.n12, .int .i64 m.n13, .int .i64 m.err, .string (strOf m.name), .string (strOf m.text), .slice ba m.bats.length bc, .slice ea m.ents.length ec, .slice ia m.ints.length ic] 27))
  have P0 := hid (pt_start hW h hl (.cells #[.int .i64 m.kind, .int .i64 m.n0, .int .i64 m.n1, .int .i64 m.n2, .int .i64 m.n3, .int .i64 m.n4, .int .i64 m.n5, .int .i64 m.n6, .int .i64 m.n7, .int .i64 m.n8, .int .i64 m.n9, .int .i64 m.n10, .int .i64 m.n11, .int .i64 m.n12, .int .i64 m.n13, .int .i64 m.err, .string (strOf m.name), .string (strOf m.text), .slice ba m.bats.length bc, .slice ea m.ents.length ec, .slice ia m.ints.length ic] 27))
  clear hW h hl hh hk
  have f0 : ¬ (k : Int) < 14 := by omega
  have f14 : ((k : Int) == 14) = false := by simp; omega
  have f15 : ((k : Int) == 15) = false := by simp; omega
  have f16 : ((k : Int) == 16) = false := by simp; omega
  have f17 : ((k : Int) == 17) = false := by simp; omega
  have f18 : ((k : Int) == 18) = false := by simp; omega
  have f19 : ((k : Int) == 19) = false := by simp; omega
  go_enter Tryd.func49, Tryd.ntmps49
  go_wp2_with (first | (refine wpList_load_row rfl 27 _ rfl w.heap.size rfl 27 _ (0, 0) _ X0.out.box Tryd.underlying27 rfl size27 ?_) | (go_at_call 63; refine (H63.out _).mono ?_; rintro e w1 ⟨rfl, hb1⟩; obtain ⟨p1, p2, p3, p4⟩ := P0.out w1 hb1 (.cells #[.int .i64 m.n0, .int .i64 m.n1, .int .i64 m.n2, .int .i64 m.n3, .int .i64 m.n4, .int .i64 m.n5, .int .i64 m.n6, .int .i64 m.n7, .int .i64 m.n8, .int .i64 m.n9, .int .i64 m.n10, .int .i64 m.n11, .int .i64 m.n12, .int .i64 m.n13] 83); have P := hid p1; have HG := hid p2; clear hb1 p1 p2 p4))
  go_ret
  exact ⟨_, rfl, by rw [List.append_nil]; exact P.out.row, P.out.below, HG.out⟩

theorem appendParts_any {W0 w : World} {v : Value} {l : List UInt8} (hW : Below W0.heap.size W0 w) (h : Row w W0.heap.size v l) (hl : l.length ≤ 20) (m : Msg) (ba : Option Addr) (bc : Nat) (ea : Option Addr) (ec : Nat) (ia : Option Addr) (ic : Nat) (hk : m.fit) (hh : Here W0 m ba ea ia) (k : Nat) (hk64 : k ≤ 64) :
    Calls Tryd.prog 49 #[v, .agg #[.int .i64 m.kind, .int .i64 m.n0, .int .i64 m.n1, .int .i64 m.n2, .int .i64 m.n3, .int .i64 m.n4, .int .i64 m.n5, .int .i64 m.n6, .int .i64 m.n7, .int .i64 m.n8, .int .i64 m.n9, .int .i64 m.n10, .int .i64 m.n11, .int .i64 m.n12, .int .i64 m.n13, .int .i64 m.err, .string (strOf m.name), .string (strOf m.text), .slice ba m.bats.length bc, .slice ea m.ents.length ec, .slice ia m.ints.length ic], .int .i64 (k : Int)] w fun e w' => ∃ v', e = .returned v' ∧ Row w' W0.heap.size v' (l ++ fromL k m) ∧ Below W0.heap.size W0 w' ∧ Grow w w' v v' := by
  by_cases h14 : k < 14
  · rw [show fromL k m = putNs ((nums m).drop k) ++ tail14 m by unfold fromL; rw [if_pos h14]]
    exact ap_low hW h hl m ba bc ea ec ia ic hk hh k h14
  by_cases e14 : k = 14
  · subst e14; exact ap14 hW h hl m ba bc ea ec ia ic hk hh
  by_cases e15 : k = 15
  · subst e15; exact ap15 hW h hl m ba bc ea ec ia ic hk hh
  by_cases e16 : k = 16
  · subst e16; exact ap16 hW h hl m ba bc ea ec ia ic hk hh
  by_cases e17 : k = 17
  · subst e17; exact ap17 hW h hl m ba bc ea ec ia ic hk hh
  by_cases e18 : k = 18
  · subst e18; exact ap18 hW h hl m ba bc ea ec ia ic hk hh
  by_cases e19 : k = 19
  · subst e19; exact ap19 hW h hl m ba bc ea ec ia ic hk hh
  rw [show fromL k m = [] by unfold fromL; rw [if_neg h14, if_neg e14, if_neg e15, if_neg e16, if_neg e17, if_neg e18, if_neg e19]]
  exact ap_none hW h hl m ba bc ea ec ia ic hk hh k (by omega) hk64
end Go.Proofs.YtocdlaoklagdoaaDoor
