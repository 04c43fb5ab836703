/- MetaTopics: the walk. -/
import Derived.Test.YtcffomhcmilcpaaGreatL0
import Derived.Test.YtcffomhcmilcpaaGreatK29
import Derived.Test.YtcffomhcmilcpaaGreatK30
namespace Go.Proofs.YtcffomhcmilcpaaGreat
open Go.RowKit Go.Maps Go.Sort
set_option maxRecDepth 100000
set_option linter.unusedSimpArgs false
set_option linter.unusedVariables false

theorem IL.front {w : World} {a : Option Addr} {c : Nat} {l : List Int} (h : IL w (.slice a l.length c) l) (k : Nat) (hk : k ≤ l.length) : IL w (.slice a k c) (l.take k) := by
  obtain ⟨⟨a', cap, e, h1, h2, h3, h4⟩, h5, h6⟩ := h
  cases e
  have hl : (l.take k).length = k := by rw [List.length_take]; omega
  refine ⟨⟨a, c, by rw [hl], by omega, h2, h3, fun hn => ?_⟩, fun x hx => h5 x (List.mem_of_mem_take hx), by omega⟩
  obtain ⟨b, off, rfl, e2, e3⟩ := h4 (by intro e; rw [e] at hn; simp at hn)
  refine ⟨b, off, rfl, e2, fun i hi => ?_⟩
  have hi' : i < l.length := by omega
  rw [e3 i hi']
  simp
/-- What is there behind some records. -/
def TI (w W : World) (q : Nat) (n : Int) (m : Nat) (bare : Bool) : Prop := ∃ I, IS w W q I (fun _ => False) ∧ TopK n I ∧ (bare = true → Bare n I) ∧ I.applied = (m : Int)
theorem TI.rec {w W : World} {q : Nat} {n : Int} {m : Nat} (h : TI w W q n m true) (hm : m < 1000) (a b : Int) (ha : a = 1 ∨ a = 3) (hb : 1 ≤ b ∧ b ≤ n) (hn : n ≤ 7) :
    Calls Tryz.prog 12 #[.pointer (some ⟨q, 0, none⟩), recV a b 1 0] W fun e w' => (∃ x y, e = .returned (.tuple #[.int .i64 x, .int .i64 y])) ∧ TI w w' q n (m + 1) true := by
  obtain ⟨I, h1, h2, h3, h4⟩ := h
  refine (h1.rec (noX W) (by omega) a b 1 0 (by omega) (by unfold I64; omega) (by unfold I64; omega) (by unfold I64; omega) (by unfold I64; omega) (J := (applyI I (rcR a b 1 0)).1) (n := (applyI I (rcR a b 1 0)).2.1) (m := (applyI I (rcR a b 1 0)).2.2) rfl).mono ?_
  rintro e w' ⟨rfl, ho⟩
  have hbare := bare_apply (r := rcR a b 1 0) (h3 rfl) ha hb
  exact ⟨⟨_, _, rfl⟩, _, ho.1, hbare.1, fun _ => hbare, by rw [applied_apply, h4]; push_cast; rfl⟩
theorem TI.topic {w W : World} {q : Nat} {n : Int} {m : Nat} (h : TI w W q n m false) (hm : m < 1000) {v : Value} {r : Rc} (hr : RecM W v r) (hk : r.kind = 4) (hl : InR (fun k => k < w.heap.size ∨ False) v r) :
    Calls Tryz.prog 12 #[.pointer (some ⟨q, 0, none⟩), v] W fun e w' => (∃ x y, e = .returned (.tuple #[.int .i64 x, .int .i64 y])) ∧ TI w w' q n (m + 1) false := by
  obtain ⟨I, h1, h2, h3, h4⟩ := h
  refine (h1.put (noX W) (by omega) hr hl (J := (applyI I r).1) (n := (applyI I r).2.1) (m := (applyI I r).2.2) rfl).mono ?_
  rintro e w' ⟨rfl, ho⟩
  exact ⟨⟨_, _, rfl⟩, _, ho.1, topk_topic h2 hk, (fun h => by cases h), by rw [applied_apply, h4]; push_cast; rfl⟩
theorem TI.under {w W W1 : World} {q : Nat} {n : Int} {m : Nat} {b : Bool} (h : TI w W q n m b) (hb : Below W.heap.size W W1) : TI w W1 q n m b := by
  obtain ⟨I, h1, h2⟩ := h
  exact ⟨I, h1.under hb, h2⟩
theorem TI.more {w W : World} {q : Nat} {n : Int} {m : Nat} {b : Bool} (h : TI w W q n m b) : TI w W q n m false := by
  obtain ⟨I, h1, h2, h3, h4⟩ := h
  exact ⟨I, h1, h2, (fun h => by cases h), h4⟩
theorem TI.below {w W : World} {q : Nat} {n : Int} {m : Nat} {b : Bool} (h : TI w W q n m b) : Below w.heap.size w W := by
  obtain ⟨I, h1, _⟩ := h
  exact h1.below

theorem PartsAt.get {B : Nat} {w : World} {v : Value} {P : List Pt} (h : PartsAt B w v P) (k : Nat) (hk : k < P.length) : ∃ g cap x, v = .slice (some ⟨g, 0, none⟩) P.length cap ∧ PartM w x P[k] ∧ g < w.heap.size ∧ ∀ t, t < 9 → ∀ u, (pc x)[t]? = some u → w.cell? ⟨g, k * 9 + t, none⟩ = some u := by
  obtain ⟨ds, h1, h2, h3, h4⟩ := h
  obtain ⟨oa, cap, rfl, _, _, _, hat⟩ := row_shape h2
  obtain ⟨g, rfl⟩ := hat (by omega)
  have hl : ds.length = P.length := by rw [← h1, List.length_map]
  have hkd : k < ds.length := by omega
  have e : ds[k].2 = P[k] := by simp [← h1]
  have h9 : ∀ x ∈ ds, (pc x.1).length = 9 := fun x hx => pc_part (h3 x hx).1
  refine ⟨g, cap, ds[k].1, rfl, ?_, row_lt h2 rfl, fun t ht u hu => ?_⟩
  · rw [← e]; exact (h3 ds[k] (List.getElem_mem hkd)).1
  · have hc := World.ownsRow.cells h2 (g := g) rfl (k * 9 + t) u (by rw [flatP_get ds k t h9 ht, List.getElem?_eq_getElem hkd]; exact hu)
    rw [add_at, Nat.zero_add] at hc
    exact hc
theorem PartsAt.shape {B : Nat} {w : World} {v : Value} {P : List Pt} (h : PartsAt B w v P) : ∃ oa cap, v = .slice oa P.length cap := by
  obtain ⟨ds, h1, h2, h3, h4⟩ := h
  obtain ⟨oa, cap, rfl, _⟩ := row_shape h2
  exact ⟨oa, cap, rfl⟩
theorem name_cell {B : Nat} {w : World} {g n cap : Nat} {ss : List (List UInt8)} (h : w.ownsRow B 9 1 (.slice (some ⟨g, 0, none⟩) n cap) n (ss.map encStr)) {k : Nat} (hk : k < ss.length) : w.cell? ⟨g, k, none⟩ = some (.string (baOf ss[k])) := by
  have hc := World.ownsRow.cells h (g := g) rfl k (.string (baOf ss[k])) (by rw [List.getElem?_map, List.getElem?_eq_getElem hk]; rfl)
  rw [add_at, Nat.zero_add] at hc
  exact hc

set_option maxHeartbeats 20000000 in
theorem topics_walk {w : World} {c : Int} {wv : Value} {ops : List Rc} (hc : I64 c) (h : Script w wv ops) : Calls Tryz.prog 8 #[.int .i64 c, wv] w fun e w' => e = .returned (.bool true) ∧ Below w.heap.size w w' := by
  obtain ⟨⟨so, cap, rfl, hat⟩, hlen⟩ := h
  have HA := hid hat
  have HSH := hid (shown_any w)
  have HNW := hid (fun V => new_any V)
  have hlen2 : ops.length ≤ 9223372036854775807 := by unfold maxLen at hlen; omega
  have HPK := hid (fun W => pick_any c 7 W hc (by omega) (by omega))
  obtain ⟨hn0, hn1⟩ := pickI_range c 7 (by omega)
  obtain ⟨n, hn⟩ : ∃ n : Nat, pickI c 7 = (n : Int) := ⟨(pickI c 7).toNat, by omega⟩
  rw [hn] at HPK hn0 hn1
  clear hat hlen hn
  go_enter Tryz.func8, Tryz.ntmps8
  go_wp2_with fail
  refine HSH.out.mono ?_
  rintro e W0 ⟨rfl, hb0⟩
  have HB0 := hid hb0
  clear hb0 HSH
  go_wp2_with fail
  refine (HNW.out W0).mono ?_
  rintro e W1 ⟨rfl, hi1, hb1⟩
  have HP0 : Hid (TI w W1 (W0.heap.size + 1) ((n : Int) + 1) 0 true) := ⟨_, IS.new w HB0.out (fun k hk => by cases hk) hi1 hb1, TopK.new _, fun _ => Bare.new _, rfl⟩
  clear hi1 hb1 HB0 HNW
  generalize W0.heap.size + 1 = q at *
  go_wp2_with fail
  refine (HPK.out W1).mono ?_
  rintro e w1 ⟨rfl, rfl⟩
  have hw1 : IntKind.i64.wrap (1 + (n : Int)) = (n : Int) + 1 := by rw [Int.add_comm]; exact IntWalk.i64_in _ ⟨by omega, by omega⟩
  clear HPK
  go_wp2_with fail
  go_loopg [8] 8 (fun kx s8 wr => ∃ (k : Nat), k ≤ n + 1 ∧ n + 1 - k ≤ kx ∧ s8 = .int .i64 ((k : Int) + 1) ∧ Hid (TI w wr q ((n : Int) + 1) (2 * k) true))
  case atStart => exact ⟨0, by omega, by omega, rfl, HP0.out⟩
  case round =>
    obtain ⟨k, hk, hkx, rfl, HP⟩ := hrel
    clear HP0
    obtain ⟨z, hz⟩ : ∃ z : Int, z = (k : Int) + 1 := ⟨_, rfl⟩
    have HZ := hid hz
    rw [← hz]
    by_cases hlt : k < n + 1
    · have hle : z ≤ (n : Int) + 1 := by omega
      have hwz : IntKind.i64.wrap (z + 1) = z + 1 := IntWalk.i64_in _ ⟨by omega, by omega⟩
      have HC1 : Hid (∀ W, TI w W q ((n : Int) + 1) (2 * k) true → Calls Tryz.prog 12 #[.pointer (some ⟨q, 0, none⟩), recV 1 z 1 0] W fun e w' => (∃ x y, e = .returned (.tuple #[.int .i64 x, .int .i64 y])) ∧ TI w w' q ((n : Int) + 1) (2 * k + 1) true) := fun W hW => hW.rec (by omega) 1 z (.inl rfl) (by omega) (by omega)
      have HC2 : Hid (∀ W, TI w W q ((n : Int) + 1) (2 * k + 1) true → Calls Tryz.prog 12 #[.pointer (some ⟨q, 0, none⟩), recV 3 z 1 0] W fun e w' => (∃ x y, e = .returned (.tuple #[.int .i64 x, .int .i64 y])) ∧ TI w w' q ((n : Int) + 1) (2 * k + 1 + 1) true) := fun W hW => hW.rec (by omega) 3 z (.inr rfl) (by omega) (by omega)
      clear hz
      go_wp2_with fail
      refine (rec_any 1 z 1 0 _).mono ?_
      rintro e w1 ⟨rfl, hb1⟩
      have HD1 := hid (HC1.out w1 (HP.out.under hb1))
      clear hb1 HC1 HP
      go_wp2_with fail
      refine HD1.out.mono ?_
      rintro e w2 ⟨⟨x1, y1, rfl⟩, ho2⟩
      have HS2 := hid ho2
      clear ho2 HD1
      go_wp2_with fail
      refine (rec_any 3 z 1 0 _).mono ?_
      rintro e w3 ⟨rfl, hb3⟩
      have HD2 := hid (HC2.out w3 (HS2.out.under hb3))
      clear hb3 HC2 HS2
      go_wp2_with fail
      refine HD2.out.mono ?_
      rintro e w4 ⟨⟨x2, y2, rfl⟩, ho4⟩
      have HS4 := hid ho4
      clear ho4 HD2
      go_wp2_with fail
      go_roundg (n + 1 - (k + 1))
      case measure => omega
      case rel => exact ⟨k + 1, by omega, Nat.le_refl _, by rw [HZ.out]; push_cast; rfl, HS4.out⟩
    · have hle : ¬ z ≤ (n : Int) + 1 := by omega
      have hk2 : 2 * k ≤ 20 := by omega
      have HP1 := hid HP.out.more
      clear hz HP
      go_upto_block 2 with fail
      go_cut [] from 9 to 61 (fun wx => Hid (TI w wx q ((n : Int) + 1) 0 false ∨ ∃ m, m ≤ 30 ∧ TI w wx q ((n : Int) + 1) (2 * k + m) false))
      case first =>
        go_wp2_with fail
        go_loopg [9] 30 (fun kx s9 wr => ∃ (m : Nat), m ≤ 30 ∧ 30 - m ≤ kx ∧ s9 = .int .i64 (m : Int) ∧ Hid (TI w wr q ((n : Int) + 1) (2 * k + m) false))
        case atStart => exact ⟨0, by omega, by omega, rfl, HP1.out⟩
        case round =>
          obtain ⟨m, hm, hmx, rfl, HM⟩ := hrel
          clear HP1
          by_cases hl2 : m < ops.length ∧ m < 30
          · obtain ⟨g1, g2⟩ := hl2
            have g1' : (m : Int) < (ops.length : Int) := by omega
            have g2' : (m : Int) < 30 := by omega
            obtain ⟨b, off, rfl, hcell⟩ := HA.out (by intro e; rw [e] at g1; simp at g1)
            have hR := (hcell m g1).under HM.out.below
            obtain ⟨la, lc, e0, e1, e2, e3, e4, e5, e6, e7, hil, hok, hnm⟩ := hR
            have HIN : Hid (In (fun k => k < w.heap.size) (.slice la ops[m].list.length lc) ops[m].list) := by
              obtain ⟨la', lc', r1, r2, r3⟩ := (hcell m g1).rec HM.out.below
              rw [e7] at r2
              simp only [Option.some.injEq, Value.slice.injEq] at r2
              obtain ⟨rfl, _, rfl⟩ := r2
              exact r3
            have HIL := hid hil
            have HOK := hid (And.intro hok hnm)
            clear hcell hok hnm hil
            generalize ops[m] = R at *
            obtain ⟨rk, ra, rb, rc, rd, rn, rt, rl⟩ := R
            simp only at e0 e1 e2 e3 e4 e5 e6 e7
            have HC : Hid (∀ W, Below wr.heap.size wr W → Calls Tryz.prog 12 #[.pointer (some ⟨q, 0, none⟩), .agg #[.int .i64 4, .int .i64 ra, .int .i64 rb, .int .i64 rc, .int .i64 rd, .string rn, .string rt, .slice la rl.length lc]] W fun e w' => (∃ x y, e = .returned (.tuple #[.int .i64 x, .int .i64 y])) ∧ TI w w' q ((n : Int) + 1) (2 * k + m + 1) false) := fun W hW => by
              refine (HM.out.under hW).topic (by omega) (r := ⟨4, ra, rb, rc, rd, rn, rt, rl⟩) ⟨⟨_, rfl, HIL.out.under hW⟩, ⟨by show I64 4; unfold I64; omega, HOK.out.1.a, HOK.out.1.b, HOK.out.1.c, HOK.out.1.d⟩, HOK.out.2⟩ rfl ?_
              intro a1 a2 a3 a4 a5 a6 a7 a8 e
              have e8 : a8 = .slice la rl.length lc := by
                have := congrArg (fun v => match v with | .agg cs => cs[7]? | _ => none) e
                simpa using this.symm
              rw [e8]
              exact HIN.out.most (fun k hk => .inl hk)
            clear HIN HIL HOK
            go_upto_region 16 with fail
            clear e0 e1 e2 e3 e4 e5 e6 e7
            go_wp2_with fail
            refine (HC.out _ ((Below.refl _ _).alloc (Nat.le_refl _) _)).mono ?_
            rintro e w2 ⟨⟨x2, y2, rfl⟩, ho⟩
            have HS4 := hid ho
            clear ho HC HM
            go_wp2_with fail
            go_roundg (30 - (m + 1))
            case measure => omega
            case rel => exact ⟨m + 1, by omega, Nat.le_refl _, by go_num, HS4.out⟩
          · by_cases h1 : m < ops.length
            · have h2 : ¬ (m : Int) < 30 := fun hh => hl2 ⟨h1, by omega⟩
              have h1' : (m : Int) < (ops.length : Int) := by omega
              clear hl2
              go_wp2_with fail
              go_meet
              case rel => exact .inr ⟨m, hm, HM.out⟩
            · have h1' : ¬ (m : Int) < (ops.length : Int) := by omega
              clear hl2
              go_wp2_with fail
              go_meet
              case rel => exact .inr ⟨m, hm, HM.out⟩
      case rest =>
        have HI0 : Hid (∃ m, m ≤ 1000 ∧ TI w wc q ((n : Int) + 1) m false) := by
          rcases hcut.out with h | ⟨m, h1, h2⟩
          · exact ⟨_, by omega, h⟩
          · exact ⟨_, by omega, h2⟩
        clear hcut HP1 HA
        obtain ⟨m0, _, I, hIS, hTK, _, _⟩ := HI0.out
        have HIS := hid hIS
        have HTK := hid hTK
        have HOK : Hid (ImOk I) := by obtain ⟨⟨Z, hz1, _⟩, _⟩ := hIS; exact hz1.ok
        have HSM : Hid (ImSum I) := hIS.2.2
        have hfew : I.tops.length ≤ 16 := HOK.out.topsFew
        have hpf : I.parts.length ≤ 16 := HOK.out.few
        clear hIS hTK HI0
        go_wp2_with fail
        refine HIS.out.parts.mono ?_
        rintro e W2 ⟨⟨vl, rfl, hPA⟩, hb2, hIS2⟩
        obtain ⟨ol, cl, rfl⟩ := hPA.shape
        have HPA := hid hPA
        have HIS2 := hid hIS2
        clear hPA hb2 hIS2 HIS
        go_wp2_with fail
        refine HIS2.out.topics.mono ?_
        rintro e W3 ⟨⟨vn, rfl, hN⟩, hb3, hIS3⟩
        obtain ⟨on, cn, rfl, _, _, _, hatn⟩ := row_shape (row_base hN (Nat.zero_le _))
        have HNR := hid hN
        have HIS3 := hid hIS3
        have HB3 := hid hb3
        clear hN hb3 hIS3 HIS2
        go_wp2_with fail
        go_loopg [14, 15] I.tops.length (fun kx s14 s15 wr => ∃ k : Nat, k ≤ I.tops.length ∧ I.tops.length - k ≤ kx ∧ s14 = .int .i64 (sumN I.tops k : Int) ∧ s15 = .int .i64 (k : Int) ∧ Hid (Below W3.heap.size W3 wr))
        case atStart => exact ⟨0, Nat.zero_le _, by omega, rfl, rfl, Below.refl _ _⟩
        case round =>
          obtain ⟨i, hi, hix, rfl, rfl, HBW⟩ := hrel
          by_cases hil : i < I.tops.length
          · have hil' : (i : Int) < (I.tops.length : Int) := by omega
            obtain ⟨gn, rfl⟩ := hatn (by omega)
            have hsl : i < (srtL I.tops).length := by rw [srt_len]; exact hil
            have hcl := kept_cell HBW.out (name_cell HNR.out hsl)
            have HFI := hid ((HIS3.out.under HBW.out).find_yes _ (srt_has hsl))
            have HSN : Hid (∀ t : Tp, t ∈ I.tops → sameN t.name (baOf (srtL I.tops)[i]) = true → sumN I.tops i + (idsT t).length = sumN I.tops (i + 1)) := fun t ht hs => sumN_find HTK.out.names hsl ht hs
            have hsum : sumN I.tops (i + 1) ≤ 16 := by
              have h1 := sumN_le HTK.out.names (fun t ht => (HOK.out.nums t ht).2.2.1) (k := i + 1) (by omega)
              have h2 := sumN_all HTK.out.names (fun t ht => (HOK.out.nums t ht).2.2.1)
              have h3 : sumT I.tops = (I.parts.length : Int) := HSM.out
              omega
            have HPV : Hid (∀ j : Nat, i = j + 1 → ∃ sp : ByteArray, wr.cell? ⟨gn, j, none⟩ = some (.string sp) ∧ Op.bytesLess (baOf (srtL I.tops)[i]).toList sp.toList = false ∧ ((baOf (srtL I.tops)[i]).toList == sp.toList) = false) := fun j e => by
              have hj : j < (srtL I.tops).length := by omega
              obtain ⟨r1, r2⟩ := srt_rise HTK.out.names (i := j) (j := i) (by omega) hsl
              refine ⟨baOf (srtL I.tops)[j], kept_cell HBW.out (name_cell HNR.out hj), ?_, ?_⟩
              · rw [ByteArray.toList_eq, ByteArray.toList_eq]; simpa using r1
              · rw [ByteArray.toList_eq, ByteArray.toList_eq]; simpa using r2
            generalize baOf (srtL I.tops)[i] = sn at *
            obtain ⟨S1, hS1⟩ : ∃ S1, S1 = sumN I.tops (i + 1) := ⟨_, rfl⟩
            rw [← hS1] at HSN hsum
            have HS1 := hid hS1
            clear hS1
            generalize sumN I.tops i = S0 at *
            clear hsl
            go_wp2_with fail
            refine HFI.out.mono ?_
            rintro e w4 ⟨⟨v', t, rfl, ht, hs, hIL, _⟩, hb4, _⟩
            obtain ⟨at', ct', rfl, _⟩ := hIL.shape
            have HSS := hid (HSN.out t ht hs)
            have HB4 : Hid (Below W3.heap.size W3 w4) := HBW.out.trans (hb4.mono HBW.out.size)
            have hcl4 := kept_cell hb4 hcl
            have HPV4 : Hid (∀ j : Nat, i = j + 1 → ∃ sp : ByteArray, w4.cell? ⟨gn, j, none⟩ = some (.string sp) ∧ Op.bytesLess sn.toList sp.toList = false ∧ (sn.toList == sp.toList) = false) := fun j e => by
              obtain ⟨sp, r1, r2⟩ := HPV.out j e
              exact ⟨sp, kept_cell hb4 r1, r2⟩
            have hwS : IntKind.i64.wrap ((S0 : Int) + ((idsT t).length : Int)) = (S1 : Int) := by
              have := HSS.out
              rw [show (S0 : Int) + ((idsT t).length : Int) = (S1 : Int) by omega]
              exact IntWalk.i64_in _ ⟨by omega, by omega⟩
            clear hcl hb4 hIL HFI HPV HSN hs ht HBW
            go_upto_region 25 with fail
            go_cut [94] from 81 to 94 (fun s94 V => s94 = .bool false ∧ Hid (Below W3.heap.size W3 V))
            case first =>
              cases i with
              | zero =>
                go_quiet (fail)
                all_goals
                  go_wp2_with fail
                  go_meet
                  case rel => exact ⟨rfl, below_drewN HB4.out _⟩
              | succ j =>
                obtain ⟨sp, r1, r2, r3⟩ := HPV4.out j rfl
                have hj0 : (0 : Int) < ((j + 1 : Nat) : Int) := by omega
                have hj1 : IntKind.i64.wrap (((j + 1 : Nat) : Int) - 1) = (j : Int) := by rw [show ((j + 1 : Nat) : Int) - 1 = (j : Int) by omega]; exact IntWalk.i64_in _ ⟨by omega, by omega⟩
                have hj2 : (j : Int) < (I.tops.length : Int) := by omega
                go_quiet (fail)
                all_goals
                  go_wp2_with fail
                  go_meet
                  case rel => exact ⟨rfl, below_drewN HB4.out _⟩
            case rest =>
              obtain ⟨rfl, HBC⟩ := hcut
              clear HB4 hcl4 HPV4
              go_wp2_with fail
              go_roundg (I.tops.length - (i + 1))
              case measure => omega
              case rel => exact ⟨i + 1, by omega, Nat.le_refl _, by rw [HS1.out], by go_num, HBC.out⟩
          · have hil' : ¬ (i : Int) < (I.tops.length : Int) := by omega
            obtain rfl : i = I.tops.length := by omega
            have hsumA : sumN I.tops I.tops.length = I.parts.length := by
              have h2 := sumN_all HTK.out.names (fun t ht => (HOK.out.nums t ht).2.2.1)
              have h3 : sumT I.tops = (I.parts.length : Int) := HSM.out
              omega
            rw [hsumA]
            have HB23 : Hid (Below W2.heap.size W2 wr) := HB3.out.trans (HBW.out.mono HB3.out.size)
            have HBw : Hid (Below w.heap.size w wr) := HIS3.out.below.trans (HBW.out.mono HIS3.out.below.size)
            clear hsumA HBW HNR HIS3 HB3 hatn HSM hfew hi hix hil hil'
            generalize wr = W5 at *
            go_wp2_with fail
            go_loopg [11, 16] I.parts.length (fun kx s11 s16 wr => ∃ k : Nat, k ≤ I.parts.length ∧ I.parts.length - k ≤ kx ∧ s11 = .int .i64 ((k : Int) + 1) ∧ s16 = .int .i64 (k : Int) ∧ Hid (Below W5.heap.size W5 wr))
            case atStart => exact ⟨0, Nat.zero_le _, by omega, rfl, rfl, Below.refl _ _⟩
            case round =>
              obtain ⟨i, hi, hix, rfl, rfl, HBW⟩ := hrel
              by_cases hil : i < I.parts.length
              · have hil' : (i : Int) < (I.parts.length : Int) := by omega
                obtain ⟨gl, cl', x, ev, hpm, hgl, hxc⟩ := HPA.out.get i hil
                obtain ⟨rfl, _, rfl⟩ := Value.slice.inj ev
                obtain ⟨f1, f2, f3, f4, f5, f6⟩ := part_facts HOK.out (n := n + 1) (by simpa using HTK.out) hil
                have hb5 := HB23.out.trans (HBW.out.mono HB23.out.size)
                have hpm5 := hpm.under hb5
                obtain ⟨a1, c1, a2, c2, a3, c3, a4, c4, rfl, j1, j2, j3, j4, j5⟩ := hpm5.open
                have hxc5 := fun t ht u hu => kept_cell hb5 (hxc t ht u hu)
                have HF5 := hid (And.intro f5 f6)
                have hld := f3 f2
                clear hxc hpm hpm5 j1 j3 j4 j5 f3 f5 f6
                generalize I.parts[i] = P at *
                obtain ⟨pid, pld, pep, pvr, isr, reps, add, rem, mn⟩ := P
                simp only at f1 f2 f4 hld j2 hxc5 HF5
                subst f1 hld
                have r0 := hxc5 0 (by decide) _ rfl
                have r1 := hxc5 1 (by decide) _ rfl
                have r2 := hxc5 2 (by decide) _ rfl
                have r3 := hxc5 3 (by decide) _ rfl
                have r4 := hxc5 4 (by decide) _ rfl
                have r5 := hxc5 5 (by decide) _ rfl
                have r6 := hxc5 6 (by decide) _ rfl
                have r7 := hxc5 7 (by decide) _ rfl
                have r8 := hxc5 8 (by decide) _ rfl
                rw [Nat.add_zero] at r0
                clear hxc5 hb5
                obtain ⟨⟨a2', c2', e2, _, _, _, hat2⟩, hok2, _⟩ := id j2
                obtain ⟨rfl, _, rfl⟩ := Value.slice.inj e2
                obtain ⟨br, off, rfl, hbr, hcr⟩ := hat2 (by intro e; rw [e] at f2; simp at f2)
                have HIL := hid j2
                have HCR := hid hcr
                have HOK2 := hid hok2
                have hc0 := hcr 0 f2
                clear j2 hcr hat2 e2 hok2
                rw [Nat.add_zero] at hc0
                generalize reps[0] = y0 at *
                go_upto_region 31 with fail
                have HBV : Hid (Below wr.heap.size wr (wr.alloc (.cells #[.int .i64 ((i : Int) + 1), .int .i64 y0, .int .i64 pep, .int .i64 pvr, .slice a1 isr.length c1, .slice (some ⟨br, off, none⟩) reps.length c2, .slice a3 add.length c3, .slice a4 rem.length c4, .int .i64 mn] 54))) := (Below.refl _ _).alloc (Nat.le_refl _) _
                have hv := heap_alloc_new wr (.cells #[.int .i64 ((i : Int) + 1), .int .i64 y0, .int .i64 pep, .int .i64 pvr, .slice a1 isr.length c1, .slice (some ⟨br, off, none⟩) reps.length c2, .slice a3 add.length c3, .slice a4 rem.length c4, .int .i64 mn] 54)
                have hv0 := cell_blk hv 0 (.int .i64 ((i : Int) + 1)) rfl
                have hv1 := cell_blk hv 1 (.int .i64 y0) rfl
                have hv5 := cell_blk hv 5 (.slice (some ⟨br, off, none⟩) reps.length c2) rfl
                have hc0' := kept_cell HBV.out hc0
                clear r0 r1 r2 r3 r4 r5 r6 r7 r8 hv hc0
                generalize wr.alloc (.cells #[.int .i64 ((i : Int) + 1), .int .i64 y0, .int .i64 pep, .int .i64 pvr, .slice a1 isr.length c1, .slice (some ⟨br, off, none⟩) reps.length c2, .slice a3 add.length c3, .slice a4 rem.length c4, .int .i64 mn] 54) = V at *
                have f4' : ¬ ((n : Int) + 1 < (reps.length : Int)) := by omega
                have f4b : decide ((n : Int) + 1 < (reps.length : Int)) = false := decide_eq_false f4'
                have hr0 : (0 : Int) < (reps.length : Int) := by omega
                go_cut [124] from 105 to 124 (fun s124 U => s124 = .bool false ∧ Hid (Below V.heap.size V U))
                case first =>
                  go_quiet (fail)
                  all_goals
                    go_wp2_with fail
                    go_meet
                    case rel => exact ⟨rfl, below_drewN (Below.refl _ _) _⟩
                case rest =>
                  obtain ⟨rfl, HBC⟩ := hcut
                  have hw2 : IntKind.i64.wrap ((i : Int) + 1 + 1) = (i : Int) + 1 + 1 := IntWalk.i64_in _ ⟨by omega, by omega⟩
                  have hv5' := kept_cell HBC.out hv5
                  have HB6 : Hid (Below wr.heap.size wr wc) := HBV.out.trans (HBC.out.mono HBV.out.size)
                  have HILc := hid (HIL.out.under HB6.out)
                  have HCRc : Hid (∀ (j : Nat) (hj : j < reps.length), wc.cell? ⟨br, off + j, none⟩ = some (.int .i64 reps[j])) := fun j hj => kept_cell HB6.out (HCR.out j hj)
                  have HEN : Hid (Below W5.heap.size W5 wc) := HBW.out.trans (HB6.out.mono HBW.out.size)
                  clear hv0 hv1 hv5 hc0' f4' f4b HBC HBV HB6 HIL HCR hbr HBW
                  generalize wr.heap.size = x0 at *
                  generalize wc = W7 at *
                  go_wp2_with fail
                  go_loopg [18] reps.length (fun kx s18 wx => ∃ k : Nat, k ≤ reps.length ∧ reps.length - k ≤ kx ∧ s18 = .int .i64 (k : Int) ∧ Hid (Below W7.heap.size W7 wx))
                  case atStart => exact ⟨0, Nat.zero_le _, by omega, rfl, Below.refl _ _⟩
                  case round =>
                    obtain ⟨k2, hk2', hkx2, rfl, HBX⟩ := hrel
                    have hv5w := kept_cell HBX.out hv5'
                    by_cases hl5 : k2 < reps.length
                    · have hl5' : (k2 : Int) < (reps.length : Int) := by omega
                      have hcw := kept_cell HBX.out (HCRc.out k2 hl5)
                      have hy := HOK2.out reps[k2] (List.getElem_mem hl5)
                      have hyr := HF5.out.2 reps[k2] (List.getElem_mem hl5)
                      have htl := take_lacks HF5.out.1 hl5
                      have HIN : Hid (∀ W, Below wr.heap.size wr W → Calls Tryz.prog 25 #[.slice (some ⟨br, off, none⟩) k2 c2, .int .i64 reps[k2]] W fun e w' => e = .returned (.bool false) ∧ w' = W) := fun W hW => by
                        refine (in_any (((HILc.out.under HBX.out).under hW).front k2 hk2') reps[k2] hy).mono ?_
                        rintro e w' ⟨rfl, rfl⟩
                        rw [htl]
                        exact ⟨rfl, rfl⟩
                      clear htl
                      generalize reps[k2] = y at *
                      obtain ⟨hy1, hy2⟩ := hyr
                      have hy2' : ¬ ((n : Int) + 1 < y) := by push_cast at hy2; omega
                      have hy1' : ¬ (y < 1) := by omega
                      have hk0 : (0 : Int) ≤ (k2 : Int) := by omega
                      go_upto_region 37 with fail
                      go_cut [19] from 134 to 143 (fun s19 U => s19 = .bool false ∧ Hid (Below wr.heap.size wr U))
                      case first =>
                        go_quiet ((go_at_call 25; refine Calls.quiet_of_same (HIN.out _ ?_); exact below_drewN (Below.refl _ _) _))
                        all_goals
                          go_wp2_with fail
                          go_meet
                          case rel => exact ⟨rfl, below_drewN (Below.refl _ _) _⟩
                      case rest =>
                        obtain ⟨rfl, HBC⟩ := hcut
                        have hv5z := kept_cell HBC.out hv5w
                        have hcwz := kept_cell HBC.out hcw
                        have HBZ : Hid (Below W7.heap.size W7 wc) := HBX.out.trans (HBC.out.mono HBX.out.size)
                        clear hv5w hcw HBC HBX HIN
                        go_wp2_with fail
                        go_roundg (reps.length - (k2 + 1))
                        case measure => omega
                        case rel => exact ⟨k2 + 1, by omega, Nat.le_refl _, by go_num, HBZ.out⟩
                    · have hl5' : ¬ (k2 : Int) < (reps.length : Int) := by omega
                      have HBZ : Hid (Below W5.heap.size W5 wr) := HEN.out.trans (HBX.out.mono HEN.out.size)
                      clear HBX
                      go_wp2_with fail
                      go_roundg (I.parts.length - (i + 1))
                      case measure => omega
                      case rel => exact ⟨i + 1, by omega, Nat.le_refl _, by push_cast; rfl, by go_num, HBZ.out⟩
              · have hil' : ¬ (i : Int) < (I.parts.length : Int) := by omega
                obtain rfl : i = I.parts.length := by omega
                have HE : Hid (Below w.heap.size w wr) := HBw.out.trans (HBW.out.mono HBw.out.size)
                have hp16 : (I.parts.length : Int) ≤ 16 := by omega
                go_wp2_with fail
                go_ret
                exact ⟨rfl, HE.out⟩
end Go.Proofs.YtcffomhcmilcpaaGreat

