/- DedupOnce: the walk. -/
import Derived.Test.YtkdbclnnmpnfgaaHD17
import Derived.Test.YtkdbclnnmpnfgaaHD14
import Derived.Test.YtkdbclnnmpnfgaaH11
namespace Go.Proofs.Ytkdbclnnmpnfgaa
open Go.RowKit Go.Maps
set_option maxRecDepth 100000
set_option linter.unusedSimpArgs false
set_option linter.unusedVariables false

theorem om_new (w0 w : World) (hb : Below w0.heap.size w0 w) : Calls Try.prog 8 #[] w fun e w' => ∃ q : Nat, e = .returned (.pointer (some ⟨q, 0, none⟩)) ∧ OM w0 w' q [] (.slice none 0 0) [] := by
  refine (new_any w).mono fun e w' ⟨q, S, a, b, c, d⟩ => ⟨q, a, S, b, fun k hk => ?_, LR.nil _ _, (fun k hk => by cases hk), hb.trans (d.mono hb.size)⟩
  have := c k hk
  have := hb.size
  omega
theorem OpsAt.get {w : World} {so : Option Addr} {ops : List OpV} (h : OpsAt w so ops) (i : Nat) (hi : i < ops.length) : ∃ b off, so = some ⟨b, off, none⟩ ∧ b < w.heap.size ∧ ops[i].ok ∧ OpCells w b (off + i * 6) ops[i] := by
  rcases h with h | ⟨b, off, e, hlt, hc⟩
  · rw [h] at hi; simp at hi
  · exact ⟨b, off, e, hlt, hc i hi⟩
theorem six29 {w W : World} {a0 a1 a2 a3 a4 a5 : Value} {q : Nat} (h : W.heap[q]? = some (.cells #[a0, a1, a2, a3, a4, a5] 29)) :
    W.cell? ⟨q, 0, none⟩ = some a0 ∧ W.cell? ⟨q, 1, none⟩ = some a1 ∧ W.cell? ⟨q, 2, none⟩ = some a2 ∧ W.cell? ⟨q, 3, none⟩ = some a3 ∧ W.cell? ⟨q, 4, none⟩ = some a4 ∧ W.cell? ⟨q, 5, none⟩ = some a5 :=
  ⟨cell_blk h 0 _ rfl, cell_blk h 1 _ rfl, cell_blk h 2 _ rfl, cell_blk h 3 _ rfl, cell_blk h 4 _ rfl, cell_blk h 5 _ rfl⟩

set_option maxHeartbeats 25600000 in
theorem once_walk (w : World) (so : Option Addr) (cap : Nat) (ops : List OpV) (hops : OpsAt w so ops) (hlen : ops.length ≤ maxLen) :
    Calls Try.prog 5 #[.slice so ops.length cap] w fun e w' => e = .returned (.bool true) ∧ Below w.heap.size w w' := by
  unfold maxLen at hlen
  have HOPS := hid hops
  clear hops
  go_enter Try.func5, Try.ntmps5
  go_wp2_with fail
  refine (shown_any w).mono ?_
  rintro e w1 ⟨rfl, hb1⟩
  have HB1 := hid hb1
  clear hb1
  go_wp2_with fail
  refine (om_new w w1 HB1.out).mono ?_
  rintro e w2 ⟨q, rfl, hom⟩
  have HOM := hid hom
  clear hom
  go_wp2_with fail
  go_loopg [5, 6, 7, 8] 200 (fun kx s5 s6 s7 s8 wr => ∃ (i : Nat) (v : Value) (ls : List (Lg × Nat)) (start next : Int) (T : Tb), i ≤ 200 ∧ 200 - i ≤ kx ∧ s8 = .int .i64 (i : Int) ∧ s5 = v ∧ s6 = .int .i64 start ∧ s7 = .int .i64 next ∧ Hid (OnceI (ls.map (·.1)) T start next i ∧ OM w wr q T v ls))
  case atStart => exact ⟨0, .slice none 0 0, [], 0, 0, [], by omega, by omega, rfl, rfl, rfl, rfl, OnceI.start, HOM.out⟩
  case round =>
    obtain ⟨i, v, ls, start, next, T, hi, hkx, rfl, rfl, rfl, rfl, HI⟩ := hrel
    clear HOM
    obtain ⟨oa, lc, hsv, hlc, hlm, hln, hlo⟩ := HI.out.2.row.shape
    subst hsv
    have b0 := HI.out.1.b0
    have b1 := HI.out.1.b1
    have b2 := HI.out.1.b2
    have bl := HI.out.1.len
    rw [List.length_map] at bl
    by_cases hil : i < ops.length
    · have hil' : (i : Int) < (ops.length : Int) := by omega
      by_cases h2 : i < 200
      · have h2' : (i : Int) < 200 := by omega
        obtain ⟨ob, of_, rfl, hobl, hoo, hoc⟩ := (HOPS.out.under HI.out.2.below).get i hil
        obtain ⟨o0, o1, o2, o3, o4, o5⟩ := hoc
        generalize ops[i] = o at *
        obtain ⟨k0, k1, k2, k3, k4, k5⟩ := hoo
        have HSM := hid (small_any o.kind o.pid o.ep o.seq o.n o.off wr k0 k1 k2 k3 k4)
        have r0 := pickI_range o.kind 8 (by omega)
        have r1 := pickI_range o.pid 3 (by omega)
        have r2 := pickI_range o.ep 3 (by omega)
        have r3 := pickI_range o.seq 12 (by omega)
        have r4 := pickI_range o.n 3 (by omega)
        generalize pickI o.kind 8 = K at *
        generalize hP : 1 + pickI o.pid 3 = P at *
        have hP1 : 1 ≤ P ∧ P ≤ 3 := by omega
        clear hP r1
        generalize pickI o.ep 3 = E at *
        generalize pickI o.seq 12 = SQ at *
        obtain ⟨n, hn⟩ : ∃ n : Nat, 1 + pickI o.n 3 = (n : Int) := ⟨(1 + pickI o.n 3).toNat, by omega⟩
        have hn1 : 1 ≤ n ∧ n ≤ 3 := by omega
        rw [hn] at HSM
        clear hn r4
        generalize o.off = OFF at *
        go_wp2_with fail
        refine HSM.out.mono ?_
        rintro e w3 ⟨rfl, hb3⟩
        have HB4 := hid (hb3.trans (((Below.refl _ _).alloc (Nat.le_refl _) (.cells #[.int .i64 K, .int .i64 P, .int .i64 E, .int .i64 SQ, .int .i64 (n : Int), .int .i64 OFF] 29)).mono hb3.size))
        have HO4 := hid (heap_alloc_new w3 (.cells #[.int .i64 K, .int .i64 P, .int .i64 E, .int .i64 SQ, .int .i64 (n : Int), .int .i64 OFF] 29))
        have HI4 := hid (HI.out.2.under HB4.out)
        have HI0 := hid HI.out.1
        have HRW := hid HI.out.2.row
        have hz4 : (w3.alloc (.cells #[.int .i64 K, .int .i64 P, .int .i64 E, .int .i64 SQ, .int .i64 (n : Int), .int .i64 OFF] 29)).heap.size = w3.heap.size + 1 := by simp
        have hz3 := hb3.size
        clear HI HSM hb3 o0 o1 o2 o3 o4 o5
        by_cases hK6 : K = 6
        · subst hK6
          have HPk := hid (fun W => pick_any OFF ((ls.length : Int) + 1) W k5 (by omega) (by omega))
          have rk := pickI_range OFF ((ls.length : Int) + 1) (by omega)
          obtain ⟨k, hk⟩ : ∃ k : Nat, pickI OFF ((ls.length : Int) + 1) = (k : Int) := ⟨(pickI OFF ((ls.length : Int) + 1)).toNat, by omega⟩
          rw [hk] at HPk rk
          clear hk
          go_wp2_with fail
          refine (HPk.out _).mono ?_
          rintro e w5 ⟨rfl, rfl⟩
          by_cases hkl : k < ls.length
          · have hkl' : (k : Int) < (ls.length : Int) := by omega
            obtain ⟨g, rfl⟩ := hlo (by omega)
            have hy : ls[k]? = some ls[k] := List.getElem?_eq_getElem hkl
            obtain ⟨y0, y1, y2, y3, y4, y5⟩ := HI4.out.row.at_ k _ hy
            have HY := hid hy
            clear hy y1 y2 y3 y4 y5
            generalize ls[k] = Y at *
            obtain ⟨Y, gy⟩ := Y
            simp only at y0
            by_cases hst : start ≤ Y.base
            · have HC := hid ((HI4.out.take k (by omega)).cut Y.base)
              have HN : Hid (OnceI ((ls.take k).map (·.1)) (turnT (cutN Y.base) T) start Y.base (i + 1)) := by
                show OnceI _ _ _ _ _
                rw [List.map_take]
                exact HI0.out.cut HI4.out.ok (by rw [List.getElem?_map, HY.out]; rfl) hst
              have hkc : (k : Int) ≤ (lc : Int) := by omega
              go_wp2_with fail
              refine HC.out.mono ?_
              rintro e w6 ⟨rfl, ho6⟩
              have HO6 := hid ho6
              clear ho6
              go_wp2_with fail
              go_roundg (200 - (i + 1))
              case measure => omega
              case rel => exact ⟨i + 1, _, ls.take k, start, Y.base, _, by omega, Nat.le_refl _, by go_num, rfl, rfl, rfl, HN.out, HO6.out⟩
            · go_wp2_with fail
              go_roundg (200 - (i + 1))
              case measure => omega
              case rel => exact ⟨i + 1, _, ls, start, next, T, by omega, Nat.le_refl _, by go_num, rfl, rfl, rfl, HI0.out.more, HI4.out⟩
          · have hkl' : ¬ (k : Int) < (ls.length : Int) := by omega
            go_wp2_with fail
            go_roundg (200 - (i + 1))
            case measure => omega
            case rel => exact ⟨i + 1, _, ls, start, next, T, by omega, Nat.le_refl _, by go_num, rfl, rfl, rfl, HI0.out.more, HI4.out⟩
        · by_cases hK7 : K = 7
          · subst hK7
            have hnx : next ≤ 600 := by omega
            have HPk := hid (fun W => pick_any OFF (next - start + 1) W k5 (by omega) (by omega))
            have rk := pickI_range OFF (next - start + 1) (by omega)
            generalize pickI OFF (next - start + 1) = pk at *
            have HC := hid (HI4.out.del (start + pk))
            have HN := hid (HI0.out.del HI4.out.ok (N := start + pk) (by omega) (by omega))
            go_wp2_with fail
            refine (HPk.out _).mono ?_
            rintro e w5 ⟨rfl, rfl⟩
            go_wp2_with fail
            refine HC.out.mono ?_
            rintro e w6 ⟨rfl, ho6⟩
            have HO6 := hid ho6
            clear ho6
            go_wp2_with fail
            go_roundg (200 - (i + 1))
            case measure => omega
            case rel => exact ⟨i + 1, _, ls, start + pk, next, _, by omega, Nat.le_refl _, by go_num, rfl, rfl, rfl, HN.out, HO6.out⟩
          · skip
            have hnx : next ≤ 600 := by omega
            have hK6' : (K == 6) = false := by simpa using hK6
            have hK7' : (K == 7) = false := by simpa using hK7
            have HSB : Hid (SmallB ⟨P, E, SQ, n, next⟩ next) := ⟨hP1, by simp only; omega, by simp only; omega, hn1, rfl⟩
            have HBt := hid (batch_any P E SQ next n (w3.alloc (.cells #[.int .i64 K, .int .i64 P, .int .i64 E, .int .i64 SQ, .int .i64 (n : Int), .int .i64 OFF] 29)) (by omega))
            rw [hz4] at HBt
            go_wp2_with fail
            refine HBt.out.mono ?_
            rintro e w5 ⟨rfl, hr5, hlt5, hb5⟩
            have hb6 : Below (w3.heap.size + 1) (w3.alloc (.cells #[.int .i64 K, .int .i64 P, .int .i64 E, .int .i64 SQ, .int .i64 (n : Int), .int .i64 OFF] 29)) (w5.alloc (.cells #[.int .i64 next, .int .i64 0, .int .i64 P, .int .i64 E, .int .i64 SQ, .slice (some ⟨w3.heap.size + 1 + 1, 0, none⟩) n n] 33)) := hb5.trans (((Below.refl _ _).alloc (Nat.le_refl _) _).mono (by omega))
            have HB6 := hid hb6
            have HI6 := hid (HI4.out.under (by rw [hz4]; exact hb6))
            have hO6 := (hb6.block w3.heap.size (by omega)).trans HO4.out
            have hX6 := heap_alloc_new w5 (.cells #[.int .i64 next, .int .i64 0, .int .i64 P, .int .i64 E, .int .i64 SQ, .slice (some ⟨w3.heap.size + 1 + 1, 0, none⟩) n n] 33)
            have HR6 := hid (Recs.off hr5 (w' := w5.alloc (.cells #[.int .i64 next, .int .i64 0, .int .i64 P, .int .i64 E, .int .i64 SQ, .slice (some ⟨w3.heap.size + 1 + 1, 0, none⟩) n n] 33)) (fun k hk => Below.heap_alloc _ _ k (by cases hk; simp only; omega)) (by simp))
            have hz6 : (w5.alloc (.cells #[.int .i64 next, .int .i64 0, .int .i64 P, .int .i64 E, .int .i64 SQ, .slice (some ⟨w3.heap.size + 1 + 1, 0, none⟩) n n] 33)).heap.size = w5.heap.size + 1 := by simp
            have HO6 := hid hO6
            have HX6 := hid hX6
            clear hr5 hb5 hb6 hO6 hX6 HBt
            obtain ⟨y0, y1, y2, y3, y4, y5⟩ := six29 (w := w) HO6.out
            have x0 := cell_blk HX6.out 0 _ rfl
            have x1 := cell_blk HX6.out 1 _ rfl
            have x2 := cell_blk HX6.out 2 _ rfl
            have x3 := cell_blk HX6.out 3 _ rfl
            have x4 := cell_blk HX6.out 4 _ rfl
            have x5 := cell_blk HX6.out 5 _ rfl
            have hask := HI6.out.ask P E SQ (n : Int) (i64s _ (by omega)) (i64s _ (by omega)) (i64s _ (by omega)) (i64s _ (by omega))
            have hdr := (HI0.out.each P)
            have eask : askL (tget T P) P E SQ (n : Int) = findL (logN P (ls.map (·.1))) E SQ (n : Int) := by
              rw [hdr.2.ask hdr.1]
              exact HSB.out.ask _
            rw [eask] at hask
            have HASK := hid hask
            have hn0 : 0 ≤ next ∧ next ≤ 100000 := by omega
            have HGood := hid (good_find ⟨P, E, SQ, n, next⟩ (HSB.out.ok hn0) _ hdr.1)
            have HNL : Hid (∀ x ∈ ls.map (·.1), overB2 x ⟨P, E, SQ, n, next⟩ = true → ¬ ((findL (logN P (ls.map (·.1))) E SQ (n : Int)).2 = 0 ∧ (findL (logN P (ls.map (·.1))) E SQ (n : Int)).1 < 0)) := fun x hx ho => no_lap ⟨P, E, SQ, n, next⟩ (HSB.out.ok hn0) _ hdr.1 x hx ho
            have HNew : Hid ((findL (logN P (ls.map (·.1))) E SQ (n : Int)).2 = 0 → (findL (logN P (ls.map (·.1))) E SQ (n : Int)).1 < 0 → OnceI (ls.map (·.1) ++ [⟨P, E, SQ, n, next⟩]) (noteT T (batOf P E SQ next n)) start (next + n) (i + 1)) := fun h1 h2 => HI0.out.new HI4.out.ok (by omega) HSB.out h1 h2
            rw [← asAll_eq] at HGood
            simp only at HGood
            clear hask eask hdr
            generalize findL (logN P (ls.map (·.1))) E SQ (n : Int) = R at *
            obtain ⟨at_, er⟩ := R
            simp only at HGood HNL HNew HASK
            go_wp2_with fail
            generalize w5.alloc (.cells #[.int .i64 next, .int .i64 0, .int .i64 P, .int .i64 E, .int .i64 SQ, .slice (some ⟨w3.heap.size + 1 + 1, 0, none⟩) n n] 33) = W6 at *
            refine HASK.out.mono ?_
            rintro e w7 ⟨rfl, hb7⟩
            have HI7 := hid (HI6.out.under hb7)
            have HX7 := hid ((hb7.block w5.heap.size (by omega)).trans HX6.out)
            have HO7 := hid ((hb7.block w3.heap.size (by have := HB6.out.size; omega)).trans HO6.out)
            have HR7 := hid (Recs.off HR6.out (w' := w7) (fun k hk => hb7.block k (by cases hk; simp only; omega)) hb7.size)
            have hz7 := hb7.size
            have HAn := hid (answered_any HI7.out.row (by omega) (fun p hp => (HI0.out.ok p.1 (List.mem_map.2 ⟨p, hp, rfl⟩)).1) ⟨P, E, SQ, n, next⟩ (HSB.out.ok hn0) (w3.heap.size + 1 + 1) at_ er (fun p hp ho => HNL.out p.1 (List.mem_map.2 ⟨p, hp, rfl⟩) ho) HGood.out)
            simp only at HAn
            clear hb7 x0 x1 x2 x3 x4 x5 y0 y1 y2 y3 y4 y5 HASK HI6 HX6 HO6 HR6 HNL HGood
            have x0 := cell_blk HX7.out 0 _ rfl
            have x1 := cell_blk HX7.out 1 _ rfl
            have x2 := cell_blk HX7.out 2 _ rfl
            have x3 := cell_blk HX7.out 3 _ rfl
            have x4 := cell_blk HX7.out 4 _ rfl
            have x5 := cell_blk HX7.out 5 _ rfl
            go_wp2_with fail
            refine HAn.out.mono ?_
            rintro e w8 ⟨rfl, hb8⟩
            have HI8 := hid (HI7.out.under hb8)
            have HX8 := hid ((hb8.block w5.heap.size (by omega)).trans HX7.out)
            have HO8 := hid ((hb8.block w3.heap.size (by omega)).trans HO7.out)
            have HR8 := hid (Recs.off HR7.out (w' := w8) (fun k hk => hb8.block k (by cases hk; simp only; omega)) hb8.size)
            have hz8 := hb8.size
            clear hb8 x0 x1 x2 x3 x4 x5 HAn HI7 HX7 HO7 HR7
            by_cases he0 : er = 0
            · subst he0
              by_cases ha0 : at_ < 0
              · have HN := hid (HNew.out rfl ha0)
                have HMap : Hid ((ls ++ [((⟨P, E, SQ, n, next⟩ : Lg), w3.heap.size + 1 + 1)]).map (fun p : Lg × Nat => p.1) = ls.map (fun p : Lg × Nat => p.1) ++ [⟨P, E, SQ, n, next⟩]) := by show _ = _; simp
                obtain ⟨j0, hj0, hz0, hz1, hz2⟩ := info33
                have hbA : Below w8.heap.size w8 (w8.alloc (.cells #[.int .i64 next, .int .i64 0, .int .i64 P, .int .i64 E, .int .i64 SQ, .slice (some ⟨w3.heap.size + 1 + 1, 0, none⟩) n n] 33)) := (Below.refl _ _).alloc (Nat.le_refl _) _
                have HIA := hid (HI8.out.under hbA)
                have HROW : Hid ((w8.alloc (.cells #[.int .i64 next, .int .i64 0, .int .i64 P, .int .i64 E, .int .i64 SQ, .slice (some ⟨w3.heap.size + 1 + 1, 0, none⟩) n n] 33)).ownsRow w.heap.size 33 6 (.slice oa ls.length lc) ls.length (flatL ls)) := HIA.out.row
                have hnbA := heap_alloc_new w8 (.cells #[.int .i64 next, .int .i64 0, .int .i64 P, .int .i64 E, .int .i64 SQ, .slice (some ⟨w3.heap.size + 1 + 1, 0, none⟩) n n] 33)
                have HNW : Hid (∀ j u, (lcells (⟨P, E, SQ, n, next⟩, w3.heap.size + 1 + 1))[j]? = some u → (w8.alloc (.cells #[.int .i64 next, .int .i64 0, .int .i64 P, .int .i64 E, .int .i64 SQ, .slice (some ⟨w3.heap.size + 1 + 1, 0, none⟩) n n] 33)).cell? ((⟨w8.heap.size, 0, none⟩ : Addr).add j) = some u) := fun j u hu => by
                  rw [add_lit0]
                  refine cell_blk hnbA j u ?_
                  rw [← hu]
                  simp [lcells]
                have HON := hid (lcells_one (⟨P, E, SQ, n, next⟩, w3.heap.size + 1 + 1))
                have HRA := hid (Recs.off HR8.out (w' := w8.alloc (.cells #[.int .i64 next, .int .i64 0, .int .i64 P, .int .i64 E, .int .i64 SQ, .slice (some ⟨w3.heap.size + 1 + 1, 0, none⟩) n n] 33)) (fun k hk => Below.heap_alloc _ _ k (by cases hk; simp only; omega)) hbA.size)
                have HXA := hid ((hbA.block w5.heap.size (by omega)).trans HX8.out)
                have HOA := hid ((hbA.block w3.heap.size (by omega)).trans HO8.out)
                have hwA := HIA.out.below.size
                have hzA : (w8.alloc (.cells #[.int .i64 next, .int .i64 0, .int .i64 P, .int .i64 E, .int .i64 SQ, .slice (some ⟨w3.heap.size + 1 + 1, 0, none⟩) n n] 33)).heap.size = w8.heap.size + 1 := by simp
                have hol : ∀ k, (Value.slice oa ls.length lc).ownBlock = some k → k < wr.heap.size := fun k hk => (HRW.out.lt k hk).2
                have HOL := hid hol
                have HAP : Hid (∀ (v' : Value) (w9 : World), w9.ownsRow w.heap.size 33 6 v' (ls.length + 1) (flatL ls ++ lcells (⟨P, E, SQ, n, next⟩, w3.heap.size + 1 + 1)) → (w8.alloc (.cells #[.int .i64 next, .int .i64 0, .int .i64 P, .int .i64 E, .int .i64 SQ, .slice (some ⟨w3.heap.size + 1 + 1, 0, none⟩) n n] 33)).grownBy w9 (Value.slice oa ls.length lc).ownBlock → (v'.ownBlock = (Value.slice oa ls.length lc).ownBlock ∨ v'.ownBlock = some (w8.alloc (.cells #[.int .i64 next, .int .i64 0, .int .i64 P, .int .i64 E, .int .i64 SQ, .slice (some ⟨w3.heap.size + 1 + 1, 0, none⟩) n n] 33)).heap.size) →
                    OM w w9 q T v' (ls ++ [(⟨P, E, SQ, n, next⟩, w3.heap.size + 1 + 1)]) ∧ Recs w9 (.slice (some ⟨w3.heap.size + 1 + 1, 0, none⟩) n n) (zrecs n) ∧ w9.heap[w5.heap.size]? = some (.cells #[.int .i64 next, .int .i64 0, .int .i64 P, .int .i64 E, .int .i64 SQ, .slice (some ⟨w3.heap.size + 1 + 1, 0, none⟩) n n] 33) ∧ w9.heap[w3.heap.size]? = some (.cells #[.int .i64 K, .int .i64 P, .int .i64 E, .int .i64 SQ, .int .i64 (n : Int), .int .i64 OFF] 29)) := fun v' w9 h1 h2 h3 => by
                  have hk : ∀ k, wr.heap.size ≤ k → k < (w8.alloc (.cells #[.int .i64 next, .int .i64 0, .int .i64 P, .int .i64 E, .int .i64 SQ, .slice (some ⟨w3.heap.size + 1 + 1, 0, none⟩) n n] 33)).heap.size → w9.heap[k]? = (w8.alloc (.cells #[.int .i64 next, .int .i64 0, .int .i64 P, .int .i64 E, .int .i64 SQ, .slice (some ⟨w3.heap.size + 1 + 1, 0, none⟩) n n] 33)).heap[k]? := fun k hk1 hk2 => h2.block k hk2 (fun e => by have := HOL.out k e.symm; omega)
                  refine ⟨HIA.out.append h1 h2 h3, Recs.off HRA.out (fun k hk2 => ?_) h2.size, (hk _ (by omega) (by omega)).trans HXA.out, (hk _ (by omega) (by omega)).trans HOA.out⟩
                  cases hk2
                  exact hk _ (by simp only; omega) (by simp only; omega)
                have hcn := HI0.out.cnt
                have x0 := cell_blk HX8.out 0 _ rfl
                have x1 := cell_blk HX8.out 1 _ rfl
                have x2 := cell_blk HX8.out 2 _ rfl
                have x3 := cell_blk HX8.out 3 _ rfl
                have x4 := cell_blk HX8.out 4 _ rfl
                have x5 := cell_blk HX8.out 5 _ rfl
                clear hbA hnbA hol HNew HIA
                generalize hFL : flatL ls = FL at *
                generalize hNC : lcells (⟨P, E, SQ, n, next⟩, w3.heap.size + 1 + 1) = NC at *
                have HNC : Hid (NC.length = 1 * 6) := by show _ = _; rw [← hNC]; rfl
                clear hFL hNC
                go_wp2_with (at_builtin; refine wpList_append_own_at _ rfl _ _ 50 rfl w.heap.size 33 j0 _ 6 64 Try.underlying50 hj0 hz0 hz1 hz2 rfl (by decide) _ ls.length FL rfl HROW.out ⟨w8.heap.size, 0, none⟩ 1 1 NC rfl HNC.out HNW.out HON.out (by unfold maxLen; omega) (by omega) (by omega) ?_; intro v' w9 hown9 hg9 _ hat9; obtain ⟨g1, g2, g3, g4⟩ := HAP.out v' w9 hown9 hg9 hat9; have HG1 := hid g1; have HG2 := hid g2; have x0' := cell_blk g3 0 _ rfl; have x1' := cell_blk g3 1 _ rfl; have x2' := cell_blk g3 2 _ rfl; have x3' := cell_blk g3 3 _ rfl; have x4' := cell_blk g3 4 _ rfl; have x5' := cell_blk g3 5 _ rfl; have y4' := cell_blk g4 4 _ rfl; clear g1 g2 hown9 hg9 hat9)
                refine (HG1.out.note P E SQ next n (w3.heap.size + 1 + 1) (i64s _ (by omega)) (i64s _ (by omega)) (i64s _ (by omega)) (i64s _ (by omega)) HG2.out (by omega)).mono ?_
                rintro e w10 ⟨rfl, ho10⟩
                have HO10 := hid ho10
                clear ho10
                go_wp2_with fail
                go_roundg (200 - (i + 1))
                case measure => omega
                case rel => exact ⟨i + 1, _, _, start, next + n, _, by omega, Nat.le_refl _, by go_num, rfl, rfl, rfl, by rw [HMap.out]; exact HN.out, HO10.out⟩
              · go_wp2_with fail
                go_roundg (200 - (i + 1))
                case measure => omega
                case rel => exact ⟨i + 1, _, ls, start, next, T, by omega, Nat.le_refl _, by go_num, rfl, rfl, rfl, HI0.out.more, HI8.out⟩
            · have he0' : (er == 0) = false := by simpa using he0
              go_wp2_with fail
              go_roundg (200 - (i + 1))
              case measure => omega
              case rel => exact ⟨i + 1, _, ls, start, next, T, by omega, Nat.le_refl _, by go_num, rfl, rfl, rfl, HI0.out.more, HI8.out⟩
      · have h2' : ¬ (i : Int) < 200 := by omega
        go_wp2_with fail
        go_ret
        exact ⟨rfl, HI.out.2.below⟩
    · have hil' : ¬ (i : Int) < (ops.length : Int) := by omega
      go_wp2_with fail
      go_ret
      exact ⟨rfl, HI.out.2.below⟩
end Go.Proofs.Ytkdbclnnmpnfgaa

