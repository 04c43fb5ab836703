/- DedupDeletes: the walk. -/
import Derived.Test.YtkdbclnnmpnfgaaHD26
import Derived.Test.YtkdbclnnmpnfgaaHD25
import Derived.Test.YtkdbclnnmpnfgaaHD20
import Derived.Test.YtkdbclnnmpnfgaaH14
import Derived.Test.YtkdbclnnmpnfgaaH15
namespace Go.Proofs.Ytkdbclnnmpnfgaa
open Go.RowKit Go.Maps
set_option maxRecDepth 100000
set_option linter.unusedSimpArgs false
set_option linter.unusedVariables false

theorem OpsAt.get2 {w : World} {so : Option Addr} {ops : List OpV} (h : OpsAt w so ops) (i : Nat) (hi : i < ops.length) : ∃ b off, so = some ⟨b, off, none⟩ ∧ b < w.heap.size ∧ ops[i].ok ∧ OpCells w b (off + i * 6) ops[i] := by
  rcases h with h | ⟨b, off, e, hlt, hc⟩
  · rw [h] at hi; simp at hi
  · exact ⟨b, off, e, hlt, hc i hi⟩
theorem six29b {W : World} {a0 a1 a2 a3 a4 a5 : Value} {q : Nat} (h : W.heap[q]? = some (.cells #[a0, a1, a2, a3, a4, a5] 29)) :
    W.cell? ⟨q, 0, none⟩ = some a0 ∧ W.cell? ⟨q, 1, none⟩ = some a1 ∧ W.cell? ⟨q, 2, none⟩ = some a2 ∧ W.cell? ⟨q, 3, none⟩ = some a3 ∧ W.cell? ⟨q, 4, none⟩ = some a4 ∧ W.cell? ⟨q, 5, none⟩ = some a5 :=
  ⟨cell_blk h 0 _ rfl, cell_blk h 1 _ rfl, cell_blk h 2 _ rfl, cell_blk h 3 _ rfl, cell_blk h 4 _ rfl, cell_blk h 5 _ rfl⟩

set_option maxHeartbeats 25600000 in
theorem deletes_walk (w : World) (so : Option Addr) (cap : Nat) (ops : List OpV) (hops : OpsAt w so ops) (hlen : ops.length ≤ maxLen) :
    Calls Try.prog 6 #[.slice so ops.length cap] w fun e w' => e = .returned (.bool true) ∧ Below w.heap.size w w' := by
  unfold maxLen at hlen
  have HOPS := hid hops
  clear hops
  go_enter Try.func6, Try.ntmps6
  go_wp2_with fail
  refine (shown_any w).mono ?_
  rintro e w1 ⟨rfl, hb1⟩
  have HB1 := hid hb1
  clear hb1
  go_wp2_with fail
  refine (new_any w1).mono ?_
  rintro e w2 ⟨qa, Sa, rfl, ta, sa, hb2⟩
  have HTA := hid ta
  have HSA := hid sa
  have HB2 := hid hb2
  clear ta sa hb2
  go_wp2_with fail
  refine (new_any w2).mono ?_
  rintro e w3 ⟨qb, Sb, rfl, tb, sb, hb3⟩
  have HDM : Hid (DM w w3 qa [] qb []) := by
    have z1 := HB1.out.size
    have z2 := HB2.out.size
    exact ⟨Sa, Sb, HTA.out.under hb3, tb, fun k hk => by have := HSA.out k hk; omega, fun k hk => by have := sb k hk; omega, fun k ha hb => by have := HTA.out.below k ha; have := sb k hb; omega, HB1.out.trans ((HB2.out.mono z1).trans (hb3.mono (by omega)))⟩
  clear tb sb hb3 HTA HSA HB2 HB1
  go_wp2_with fail
  go_loopg [6, 7, 8] 200 (fun kx s6 s7 s8 wr => ∃ (i : Nat) (start next : Int) (A B : Tb), i ≤ 200 ∧ 200 - i ≤ kx ∧ s8 = .int .i64 (i : Int) ∧ s6 = .int .i64 start ∧ s7 = .int .i64 next ∧ Hid (DelI A B start next i ∧ DM w wr qa A qb B))
  case atStart => exact ⟨0, 0, 0, [], [], by omega, by omega, rfl, rfl, rfl, DelI.start, HDM.out⟩
  case round =>
    obtain ⟨i, start, next, A, B, hi, hkx, rfl, rfl, rfl, HI⟩ := hrel
    clear HDM
    have b0 := HI.out.1.b0
    have b1 := HI.out.1.b1
    have b2 := HI.out.1.b2
    by_cases hil : i < ops.length ∧ i < 200
    · obtain ⟨hil, h2⟩ := hil
      have hil' : (i : Int) < (ops.length : Int) := by omega
      have h2' : (i : Int) < 200 := by omega
      obtain ⟨ob, of_, rfl, hobl, hoo, hoc⟩ := (HOPS.out.under HI.out.2.below).get2 i hil
      obtain ⟨o0, o1, o2, o3, o4, o5⟩ := hoc
      generalize ops[i] = o at *
      obtain ⟨k0, k1, k2, k3, k4, k5⟩ := hoo
      have HSM := hid (small_any o.kind o.pid o.ep o.seq o.n o.off wr k0 k1 k2 k3 k4)
      have r0 := pickI_range o.kind 8 (by omega)
      have r1 := pickI_range o.pid 3 (by omega)
      have r2 := pickI_range o.ep 3 (by omega)
      have r3 := pickI_range o.seq 12 (by omega)
      have r4 := pickI_range o.n 3 (by omega)
      generalize pickI o.kind 8 = K at *
      generalize hP : 1 + pickI o.pid 3 = P at *
      have hP1 : 1 ≤ P ∧ P ≤ 3 := by omega
      clear hP r1
      generalize pickI o.ep 3 = E at *
      generalize pickI o.seq 12 = SQ at *
      obtain ⟨n, hn⟩ : ∃ n : Nat, 1 + pickI o.n 3 = (n : Int) := ⟨(1 + pickI o.n 3).toNat, by omega⟩
      have hn1 : 1 ≤ n ∧ n ≤ 3 := by omega
      rw [hn] at HSM
      clear hn r4
      generalize o.off = OFF at *
      go_wp2_with fail
      refine HSM.out.mono ?_
      rintro e w3 ⟨rfl, hb3⟩
      have HX := hid ((HI.out.2.under hb3).laid (.cells #[.int .i64 K, .int .i64 P, .int .i64 E, .int .i64 SQ, .int .i64 (n : Int), .int .i64 OFF] 29))
      have HI0 := hid HI.out.1
      clear HI HSM hb3 o0 o1 o2 o3 o4 o5
      have hnx : next ≤ 600 := by omega
      by_cases hK6 : K = 6
      · subst hK6
        have HPk := hid (fun W => pick_any OFF (next - start + 1) W k5 (by omega) (by omega))
        have rk := pickI_range OFF (next - start + 1) (by omega)
        generalize pickI OFF (next - start + 1) = pk at *
        have HC := hid (HX.out.dm.cut (start + pk))
        have HN := hid (HI0.out.cut HX.out.dm.okA HX.out.dm.okB (N := start + pk) (by omega) (by omega))
        go_wp2_with fail
        refine (HPk.out _).mono ?_
        rintro e w5 ⟨rfl, rfl⟩
        go_wp2_with fail
        refine HC.out.mono ?_
        rintro e w6 ⟨rfl, ho6⟩
        have HC2 := hid (ho6.swap.cut (start + pk))
        clear ho6
        go_wp2_with fail
        refine HC2.out.mono ?_
        rintro e w7 ⟨rfl, ho7⟩
        have HO7 := hid ho7.swap
        clear ho7
        go_wp2_with fail
        go_roundg (200 - (i + 1))
        case measure => omega
        case rel => exact ⟨i + 1, start, start + pk, _, _, by omega, Nat.le_refl _, by go_num, rfl, rfl, HN.out, HO7.out⟩
      · by_cases hK7 : K = 7
        · subst hK7
          have HPk := hid (fun W => pick_any OFF (next - start + 1) W k5 (by omega) (by omega))
          have rk := pickI_range OFF (next - start + 1) (by omega)
          generalize pickI OFF (next - start + 1) = pk at *
          have HC := hid (HX.out.dm.del (start + pk))
          have HN := hid (HI0.out.del HX.out.dm.okA HX.out.dm.okB (N := start + pk) (by omega) (by omega))
          go_wp2_with fail
          refine (HPk.out _).mono ?_
          rintro e w5 ⟨rfl, rfl⟩
          go_wp2_with fail
          refine HC.out.mono ?_
          rintro e w6 ⟨rfl, ho6⟩
          have HO6 := hid ho6
          clear ho6
          go_wp2_with fail
          go_roundg (200 - (i + 1))
          case measure => omega
          case rel => exact ⟨i + 1, start + pk, next, _, B, by omega, Nat.le_refl _, by go_num, rfl, rfl, HN.out, HO6.out⟩
        · have hK6' : (K == 6) = false := by simpa using hK6
          have hK7' : (K == 7) = false := by simpa using hK7
          have HSB : Hid (SmallB ⟨P, E, SQ, n, next⟩ next) := ⟨hP1, by simp only; omega, by simp only; omega, hn1, rfl⟩
          have eA : askL (tget A P) P E SQ (n : Int) = findL (tget B P) E SQ (n : Int) := by
            rw [(HI0.out.each P).ask (HX.out.dm.okB.get P).1]
            exact HSB.out.ask _
          have eB : askL (tget B P) P E SQ (n : Int) = findL (tget B P) E SQ (n : Int) := HSB.out.ask _
          have hA := HX.out.dm.ask P E SQ (n : Int) (i64s _ (by omega)) (i64s _ (by omega)) (i64s _ (by omega)) (i64s _ (by omega))
          rw [eA] at hA
          have HASK := hid hA
          have HNew : Hid ((findL (tget B P) E SQ (n : Int)).2 = 0 → (findL (tget B P) E SQ (n : Int)).1 < 0 → DelI (noteT A (batOf P E SQ next n)) (noteT B (batOf P E SQ next n)) start (next + n) (i + 1)) := fun h1 h2 => HI0.out.new HX.out.dm.okA HX.out.dm.okB (by omega) HSB.out h1 h2
          have HEB := hid eB
          clear hA eA eB
          have hca := HI0.out.ca
          have hcb := HI0.out.cb
          generalize findL (tget B P) E SQ (n : Int) = R at *
          obtain ⟨at_, er⟩ := R
          simp only at HNew HASK HEB
          go_wp2_with fail
          refine HASK.out.mono ?_
          rintro e w5 ⟨rfl, hb5⟩
          have HX5 := hid (HX.out.under hb5)
          clear hb5 HASK HX
          have hB5 := HX5.out.dm.swap.ask P E SQ (n : Int) (i64s _ (by omega)) (i64s _ (by omega)) (i64s _ (by omega)) (i64s _ (by omega))
          rw [HEB.out] at hB5
          have HASK2 := hid hB5
          clear hB5
          obtain ⟨y0, y1, y2, y3, y4, y5⟩ := six29b HX5.out.box
          go_wp2_with fail
          refine HASK2.out.mono ?_
          rintro e w6 ⟨rfl, hb6⟩
          have HX6 := hid (HX5.out.under hb6)
          clear hb6 HASK2 HX5 y0 y1 y2 y3 y4 y5
          by_cases he0 : er = 0 ∧ at_ < 0
          · obtain ⟨he0, ha0⟩ := he0
            subst he0
            have HN := hid (HNew.out rfl ha0)
            obtain ⟨y0, y1, y2, y3, y4, y5⟩ := six29b HX6.out.box
            go_wp2_with fail
            refine (batch_any P E SQ next n w6 (by omega)).mono ?_
            rintro e w7 ⟨rfl, hr7, hlt7, hb7⟩
            have HX7 := hid (HX6.out.under hb7)
            have HNt := hid (HX7.out.note P E SQ next n _ (i64s _ (by omega)) (i64s _ (by omega)) (i64s _ (by omega)) (i64s _ (by omega)) hr7 (by omega))
            clear hr7 hb7 HX6 y0 y1 y2 y3 y4 y5
            go_wp2_with fail
            refine HNt.out.mono ?_
            rintro e w8 ⟨rfl, ho8⟩
            have HX8 := hid ho8
            clear ho8 HNt HX7
            obtain ⟨y0, y1, y2, y3, y4, y5⟩ := six29b HX8.out.box
            go_wp2_with fail
            refine (batch_any P E SQ next n w8 (by omega)).mono ?_
            rintro e w9 ⟨rfl, hr9, hlt9, hb9⟩
            have HX9 := hid (HX8.out.under hb9).swap
            have HNt := hid (HX9.out.note P E SQ next n _ (i64s _ (by omega)) (i64s _ (by omega)) (i64s _ (by omega)) (i64s _ (by omega)) hr9 (by omega))
            clear hr9 hb9 HX8 y0 y1 y2 y3 y4 y5
            go_wp2_with fail
            refine HNt.out.mono ?_
            rintro e w10 ⟨rfl, ho10⟩
            have HX10 := hid ho10.swap
            clear ho10 HNt HX9
            obtain ⟨y0, y1, y2, y3, y4, y5⟩ := six29b HX10.out.box
            go_wp2_with fail
            go_roundg (200 - (i + 1))
            case measure => omega
            case rel => exact ⟨i + 1, start, next + n, _, _, by omega, Nat.le_refl _, by go_num, rfl, rfl, HN.out, HX10.out.dm⟩
          · by_cases he1 : er = 0
            · subst he1
              have ha1 : ¬ at_ < 0 := fun h => he0 ⟨rfl, h⟩
              clear he0
              go_wp2_with fail
              go_roundg (200 - (i + 1))
              case measure => omega
              case rel => exact ⟨i + 1, start, next, A, B, by omega, Nat.le_refl _, by go_num, rfl, rfl, HI0.out.more, HX6.out.dm⟩
            · have he0' : (er == 0) = false := by simpa using he1
              clear he0
              go_wp2_with fail
              go_roundg (200 - (i + 1))
              case measure => omega
              case rel => exact ⟨i + 1, start, next, A, B, by omega, Nat.le_refl _, by go_num, rfl, rfl, HI0.out.more, HX6.out.dm⟩
    · have HEnd : Hid (∀ W : World, DM w W qa A qb B → True) := fun _ _ => trivial
      have hca := HI.out.1.ca
      have hAl := HI.out.2.okA.len
      have hkl : (keepB A).length ≤ 100000 := by
        have h1 := tabB_length A
        have h2 := cntT_len A (fun p hp => (HI.out.2.okA.each p hp).2.1)
        have h3 := (intL_length (A.length : Int)).2
        unfold keepB sealL
        have h4 : ∀ l, (fourL (crcL l)).length = 4 := fun l => rfl
        simp only [List.length_append, h4]
        omega
      have HLB := hid (load_back A HI.out.2.okA)
      have HLE := hid (keep_le HI.out.2.okA HI.out.2.okB HI.out.1.each)
      have hKB : (keepB B).length ≤ 9000000000 := by
        have h1 := tabB_length B
        have h2 := HI.out.2.okB.len
        have h5 := HI.out.2.okB.few
        have h3 := (intL_length (B.length : Int)).2
        unfold keepB sealL
        have h4 : ∀ l, (fourL (crcL l)).length = 4 := fun l => rfl
        simp only [List.length_append, h4]
        omega
      have sA := strOf_size (keepB A)
      have sB := strOf_size (keepB B)
      obtain ⟨Sa, Sb, t1, t2, t3, t4, t5, t6⟩ := HI.out.2
      have HT1 := hid t1
      have HT2 := hid t2
      have HT6 := hid t6
      clear t1 t2 t3 t4 t5 t6 HEnd HI
      have HK1 := hid (keep_any HT1.out)
      have hilx : ¬ (i : Int) < (ops.length : Int) ∨ ¬ (i : Int) < 200 := by omega
      by_cases c1 : (i : Int) < (ops.length : Int)
      all_goals
        have c2 : (i : Int) < (ops.length : Int) → ¬ (i : Int) < 200 := by omega
        try have c3 := c2 c1
        clear c2 hilx hil
        go_wp2_with fail
        refine HK1.out.mono ?_
        rintro e w4 ⟨rfl, hb4⟩
        have HB4 := hid hb4
        clear hb4
        go_wp2_with fail
        refine (load_any (keepB A) w4 hkl).mono ?_
        rintro e w5 ⟨hb5, hld⟩
        have HB5 := hid hb5
        rw [HLB.out] at hld
        rcases hld with ⟨_, q5, S5, rfl, ht5, hs5⟩ | ⟨hne, _⟩
        · have HT5 := hid ht5
          clear ht5 hb5
          go_wp2_with fail
          refine (keep_any HT5.out).mono ?_
          rintro e w6 ⟨rfl, hb6⟩
          have HBB : Hid (Below wr.heap.size wr w6) := HB4.out.trans ((HB5.out.mono HB4.out.size).trans (hb6.mono (by have := HB4.out.size; have := HB5.out.size; omega)))
          clear hb6
          go_wp2_with fail
          refine (keep_any (HT1.out.under HBB.out)).mono ?_
          rintro e w7 ⟨rfl, hb7⟩
          have HB7 : Hid (Below wr.heap.size wr w7) := HBB.out.trans (hb7.mono HBB.out.size)
          clear hb7
          go_wp2_with fail
          refine (keep_any (HT1.out.under HB7.out)).mono ?_
          rintro e w8 ⟨rfl, hb8⟩
          have HB8 : Hid (Below wr.heap.size wr w8) := HB7.out.trans (hb8.mono HB7.out.size)
          clear hb8
          go_wp2_with fail
          refine (keep_any (HT2.out.under HB8.out)).mono ?_
          rintro e w9 ⟨rfl, hb9⟩
          have HB9 : Hid (Below wr.heap.size wr w9) := HB8.out.trans (hb9.mono HB8.out.size)
          clear hb9
          have hle : ((keepB A).length : Int) ≤ ((keepB B).length : Int) := by have := HLE.out; omega
          go_wp2_with fail
          go_ret
          exact ⟨rfl, HT6.out.trans (HB9.out.mono HT6.out.size)⟩
        · exact absurd rfl hne
end Go.Proofs.Ytkdbclnnmpnfgaa

