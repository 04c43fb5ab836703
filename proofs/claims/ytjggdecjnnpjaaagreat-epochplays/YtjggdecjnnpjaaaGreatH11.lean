/- Delete. -/
import Derived.Test.YtjggdecjnnpjaaaGreatH8
import Derived.Deep.RegionLaw
import Derived.Deep.RegionLawGrows
namespace Go.Proofs.YtjggdecjnnpjaaaGreat
open Go.RowKit Go.Maps Go.Sort
set_option maxRecDepth 100000
set_option linter.unusedSimpArgs false
set_option linter.unusedVariables false

theorem step_append_own {w : World} {ops : Array Oper} {o : Oper} {a : Act} {K : Act → World → Prop} {Q : Exit → Act → World → Prop} {E : Prop} (hgd : o.guard = none) (s x : Operand) (t : TypeId)
    (ho : o.op = .call { callee := .builtin .append, args := #[s, x], argTypes := #[t, t] })
    (base : Nat) (e : TypeId) (i : TypeInfo) (z : Value) (size bytes : Nat) (ht : Tryz.prog.underlying t = some (.slice e)) (hi : Tryz.prog.info? e = some i) (hz : i.zero = some z)
    (hsize : i.size = size) (hby : i.bytes = bytes) (hzs : z.cells.size = size) (hsz : 0 < size)
    (v : Value) (n : Nat) (xs : List Value) (hs : a.eval s = v) (hown : w.ownsRow base e size v n xs)
    (ad : Addr) (m c : Nat) (news : List Value) (hx : a.eval x = .slice (some ad) m c) (hl : news.length = m * size) (hnews : ∀ j u, news[j]? = some u → w.cell? (ad.add j) = some u) (h1 : ∀ u ∈ news, u.oneCell' = true)
    (h63 : n + m ≤ maxLen) (hbytes : (n + m) * bytes ≤ 140737488355328) (hbase : base ≤ w.heap.size)
    (h : ∀ v' w', w'.ownsRow base e size v' (n + m) (xs ++ news) → w.grownBy w' v.ownBlock → (v' = .slice none 0 0 ↔ v = .slice none 0 0 ∧ m = 0) → (v'.ownBlock = v.ownBlock ∨ v'.ownBlock = some w.heap.size) → K (a.put o.dst v') w') :
    if Region.wanted o (yielded ops a.tmps) = true then Oper.wp Tryz.prog o a w K Q else E := by
  have hw : Region.wanted o (yielded ops a.tmps) = true := by simp [Region.wanted, hgd]
  rw [if_pos hw]
  obtain ⟨v', w', hr, h2, h3, h4, h5⟩ := run_append_own_at (P := Tryz.prog) w base t o.type e i z size bytes ht hi hz hsize hby hzs hsz v n xs hown ad m c news hl hnews h1 h63 hbytes hbase
  unfold Oper.wp execOp
  simp only [ho, resolve, invoke, builtin, Sem.run_bind, Sem.run_pure, Result.andThen_ok, List.map_toArray, List.map_cons, List.map_nil, hs, hx, hr]
  exact h v' w' h2 h3 h4 h5
theorem step_call32 {w : World} {ops : Array Oper} {o : Oper} {a : Act} {K : Act → World → Prop} {Q : Exit → Act → World → Prop} {E : Prop} (hgd : o.guard = none) (x y : Nat) (ts : Array TypeId)
    (ho : o.op = .call { callee := .value (.func 33), args := #[.tmp x, .tmp y], argTypes := ts }) (u v : Value) (hx : a.eval (.tmp x) = u) (hy : a.eval (.tmp y) = v) (R : Ending → World → Prop)
    (hC : Calls Tryz.prog 33 #[u, v] w R) (hK : ∀ e w', R e w' → ∃ r, e = .returned r ∧ K (a.put o.dst r) w') :
    if Region.wanted o (yielded ops a.tmps) = true then Oper.wp Tryz.prog o a w K Q else E := by
  have hw : Region.wanted o (yielded ops a.tmps) = true := by simp [Region.wanted, hgd]
  rw [if_pos hw]
  have he : (execOp a.eval o).run Tryz.prog w = .ok (.enter 33 #[u, v]) w := by
    subst hx
    subst hy
    simp [go_sem, execOp, ho, resolve]
  unfold Oper.wp
  rw [he]
  refine hC.mono ?_
  intro e w' hR
  obtain ⟨r, rfl, hr⟩ := hK e w' hR
  exact hr
theorem owns_one (W : World) (x y : Int) {B : Nat} (hB : B ≤ W.heap.size) : (W.alloc (.cells #[.int .i64 x, .int .i64 y] 68)).drew.ownsRow B 68 2 (.slice (some ⟨W.heap.size, 0, none⟩) 1 1) 1 [.int .i64 x, .int .i64 y] :=
  ⟨rfl, .inr ⟨W.heap.size, 1, _, rfl, hB, heap_alloc_new W _, Nat.le_refl _, by unfold maxLen; omega, rfl, rfl⟩⟩
set_option maxHeartbeats 3200000 in
theorem cdel_any {w : World} {B : Nat → Prop} {q a name l size fs} (h : CD w B q a name l size fs) (hk : EOk l) (hn : name.size ≤ maxLen) (o : Int) :
    Calls Tryz.prog 13 #[.pointer (some ⟨q, 0, none⟩), .int .i64 o] w fun e w' => CallPost B w q a name l size fs (delC l o) e w' := by
  have H29 := hid (isNum_any o (w.alloc (.cells #[.int .i64 o] 3)))
  have HB := hid ((Below.refl w.heap.size w).alloc (Nat.le_refl _) (.cells #[.int .i64 o] 3))
  have c0 : (w.alloc (.cells #[.int .i64 o] 3)).cell? ⟨w.heap.size, 0, none⟩ = some (.int .i64 o) := cell_at (heap_alloc_new w _) rfl
  have HC : Hid (delC l o = if inB o then (0, delW l o) else (1, l)) := rfl
  have HD := hid h
  have HK := hid hk
  clear h hk
  cases hI : inB o with
  | false =>
    rw [hI] at H29 HC
    rw [if_neg (by simp)] at HC
    go_enter Tryz.func13, Tryz.ntmps13
    go_wp2_with (go_at_call 30; refine H29.out.mono ?_; rintro e w1 ⟨rfl, rfl⟩)
    go_ret
    rw [HC.out]
    exact call_err HD.out HB.out _ 1 (by omega)
  | true =>
    rw [hI] at H29 HC
    rw [if_pos rfl] at HC
    have HO := hid ((inB_iff o).1 hI)
    obtain ⟨oa, cap, k2, kw, HEL, hcap, hcm, hnn, hoa⟩ := HD.out.q HB.out
    have HE := hid HEL
    have hlen := HK.out.few
    have H30 : Hid (∀ W, Below (w.alloc (.cells #[.int .i64 o] 3)).heap.size (w.alloc (.cells #[.int .i64 o] 3)) W → Calls Tryz.prog 31 #[.pointer (some ⟨q, 0, none⟩), .func (.func 38) #[] #[.pointer (some ⟨w.heap.size, 0, none⟩)]] W fun e w' => (∃ r : Nat, e = .returned (.int .i64 (r : Int)) ∧ FoundAt l (fun x => decide (o < x.2)) r) ∧ Below (w.alloc (.cells #[.int .i64 o] 3)).heap.size (w.alloc (.cells #[.int .i64 o] 3)) w') := fun W hb => by
      obtain ⟨U, S, v, h1, h2, h3, h4⟩ := HD.out
      exact (first34 ((h1.under HB.out).under hb) hlen w.heap.size o ((World.cell?_of_block (hb.block _ (by simp))).trans c0)).mono fun e w' ⟨e1, e2⟩ => ⟨e1, hb.trans (e2.mono hb.size)⟩
    have HKp : Hid (∀ W, Below (w.alloc (.cells #[.int .i64 o] 3)).heap.size (w.alloc (.cells #[.int .i64 o] 3)) W → ∀ p u, (w.alloc (.cells #[.int .i64 o] 3)).cell? p = some u → W.cell? p = some u) := fun W hb p u hu => (World.cell?_of_block (hb.block p.block (World.block_lt_of_cell? _ _ hu))).trans hu
    have hz1 : (w.alloc (.cells #[.int .i64 o] 3)).heap.size = w.heap.size + 1 := by simp
    clear HEL
    go_enter Tryz.func13, Tryz.ntmps13
    go_wp2_with (go_at_call 30; refine H29.out.mono ?_; rintro e w1 ⟨rfl, rfl⟩)
    generalize w.alloc (.cells #[.int .i64 o] 3) = W1 at *
    go_wp2_with fail
    refine (H30.out _ ?_).mono ?_
    · first | exact Below.refl _ _ | exact (Below.refl _ _).drew
    rintro e w2 ⟨⟨r, rfl, hr⟩, hb2⟩
    have hrl := hr.le
    obtain ⟨D0, D1⟩ := found_del HK.out hr
    have HR := hid hr
    clear hr
    cases r with
    | zero =>
      have HD0 := hid (D0 rfl)
      clear D0 D1
      go_wp2_with fail
      go_ret
      rw [HC.out, HD0.out]
      exact call_none HD.out (HB.out.trans (hb2.mono HB.out.size))
    | succ n =>
      have hnl : n < l.length := by omega
      have hx : l[n]? = some l[n] := List.getElem?_eq_getElem hnl
      have HD1 := hid (D1 l[n] (by omega) (by simp))
      have HX := hid hx
      obtain ⟨g, rfl⟩ := hoa (by omega)
      obtain ⟨r0, r1⟩ := (HE.out.under hb2).at_ n l[n] hx
      generalize l[n] = x at *
      have p2 := HKp.out _ hb2 _ _ k2
      have p0 := HKp.out _ hb2 _ _ c0
      have hn1 : (((n + 1 : Nat) : Int) - 1) = (n : Int) := by omega
      have hn2 : ¬ (n : Int) < 0 := by omega
      have hn3 : (n : Int) < (l.length : Int) := by omega
      have K2 := hid k2
      clear D0 D1 hx hrl k2 c0
      go_wp2_with fail
      try rw [hn1]
      go_wp2_with fail
      go_region_held3 (fun w' => w'.cell? ⟨q, 2, none⟩ = some (.slice (some ⟨g, 0, none⟩) l.length cap) ∧ w'.cell? ⟨w.heap.size, 0, none⟩ = some (.int .i64 o) ∧ w'.cell? ⟨g, n * 2, none⟩ = some (.int .i64 x.1)) (go_keep) (fail)
      have HB3 : Hid (Below w2.heap.size w2 (w2.alloc (.cells #[.int .i64 x.1, .int .i64 o] 68)).drew) := ((Below.refl _ _).alloc (Nat.le_refl _) _).drew
      have HX3 : Hid ((w2.alloc (.cells #[.int .i64 x.1, .int .i64 o] 68)).drew.heap[w2.heap.size]? = some (.cells #[.int .i64 x.1, .int .i64 o] 68)) := heap_alloc_new w2 _
      have hq2 : w2.heap.size < (w2.alloc (.cells #[.int .i64 x.1, .int .i64 o] 68)).drew.heap.size := by simp
      generalize (w2.alloc (.cells #[.int .i64 x.1, .int .i64 o] 68)).drew = W3 at *
      have e0 := cell_at HX3.out (j := 0) rfl
      have e1 := cell_at HX3.out (j := 1) rfl
      have s2 := HKp.out _ (hb2.trans (HB3.out.mono hb2.size)) _ _ K2.out
      have s2a : (W3.alloc (.cells #[.int .i64 x.1, .int .i64 o] 68)).cell? ⟨q, 2, none⟩ = some (.slice (some ⟨g, 0, none⟩) l.length cap) := (World.cell?_alloc_some W3 _ _ (by rw [s2]; rfl)).trans s2
      have hcapI : (l.length : Int) ≤ (cap : Int) := by omega
      have hn4 : ((n : Int) + 1) ≤ (l.length : Int) := by omega
      have hn5 : IntKind.i64.wrap ((n : Int) + 1) = (n : Int) + 1 := IntWalk.i64_in _ (by omega)
      have hn6 : ((n : Int) + 1).toNat = n + 1 := by omega
      have hn7 : (0 : Int) ≤ (n : Int) + 1 := by omega
      have hbW : Below w.heap.size w W3 := HB.out.trans ((hb2.trans (HB3.out.mono hb2.size)).mono HB.out.size)
      have HBA : Hid (Below w.heap.size w (W3.alloc (.cells #[.int .i64 x.1, .int .i64 o] 68)).drew) := (hbW.alloc hbW.size _).drew
      have HOWN : Hid ((W3.alloc (.cells #[.int .i64 x.1, .int .i64 o] 68)).drew.ownsRow w.heap.size 68 2 (.slice (some ⟨W3.heap.size, 0, none⟩) 1 1) 1 [.int .i64 x.1, .int .i64 o]) := owns_one W3 x.1 o hbW.size
      have HNWS : Hid (∀ j u, (flatN (l.drop (n + 1)))[j]? = some u → (W3.alloc (.cells #[.int .i64 x.1, .int .i64 o] 68)).drew.cell? ((⟨g, (n + 1) * 2, none⟩ : Addr).add j) = some u) := fun j u hu => by
        have hb3 := (hb2.trans (HB3.out.mono hb2.size))
        exact ((HE.out.under hb3).under (((Below.refl _ W3).alloc (Nat.le_refl _) _).drew)).cells (n + 1) j u hu
      have H32 : Hid (∀ v5 w5, w5.ownsRow w.heap.size 68 2 v5 (1 + (l.length - (n + 1))) ([.int .i64 x.1, .int .i64 o] ++ flatN (l.drop (n + 1))) → (W3.alloc (.cells #[.int .i64 x.1, .int .i64 o] 68)).drew.grownBy w5 (some W3.heap.size) → Calls Tryz.prog 33 #[.pointer (some ⟨q, 0, none⟩), v5] w5 fun e w' => CallPost B w q a name l size fs (0, delW l o) e w') := fun v5 w5 hown hg => by
        have hbs := hbW.size
        have hb5 : Below w.heap.size w w5 := HBA.out.grown hg HBA.out.size (fun k hk => by cases hk; exact hbs)
        refine HD.out.keep HK.out hn hb5 (delW_ok HK.out HO.out) (fun v hv _ => ⟨?_, fun k hk => .inr (World.ownsRow.lt hown k hk).1⟩)
        rw [HD1.out]
        exact EL.of (l := (x.1, o) :: l.drop (n + 1)) hown (by simp; omega)
      have HLD : Hid ((flatN (l.drop (n + 1))).length = (l.length - (n + 1)) * 2) := by show _ = _; rw [flatN_length, List.length_drop]
      have hone := flatN_one (l.drop (n + 1))
      have HONE := hid hone
      obtain ⟨i0, hi0, hz0, hz1', hz2⟩ := info74
      have hmm : 1 + (l.length - (n + 1)) ≤ 200 := by omega
      have HE5 : Hid (l.drop (n + 1) = [] ∨ ¬ cap = n + 1) := by
        rcases Nat.lt_or_ge (n + 1) l.length with h | h
        · exact .inr (by omega)
        · exact .inl (List.drop_eq_nil_of_le h)
      clear p2 p0 r0 r1 hone
      by_cases hcn : cap = n + 1
      · have hdr : l.drop (n + 1) = [] := by
          rcases HE5.out with h | h
          · exact h
          · exact absurd hcn h
        rw [hdr] at HNWS HLD HONE H32
        have hn8 : l.length - (n + 1) = 0 := by omega
        rw [hn8] at H32
        go_wp2_with fail
        go_region_law (first
          | (refine step_append_own (by rfl) (.tmp 28) (.tmp 35) 64 (by rfl) w.heap.size 68 i0 _ 2 16 Tryz.underlying64 hi0 hz0 hz1' hz2 rfl (by decide) (.slice (some ⟨W3.heap.size, 0, none⟩) 1 1) 1 [.int .i64 x.1, .int .i64 o] (by simp [Act.eval, Act.put]) (by exact HOWN.out) ⟨g, 0, none⟩ 0 0 (flatN []) (by simp [Act.eval, Act.put, hcn]) rfl (fun j u hu => by simp [flatN] at hu) (fun u hu => by simp [flatN] at hu) (by unfold maxLen; omega) (by omega) (by exact HBA.out.size) ?_; intro v5 w5 hown5 hg5 _ _; have Ho5 := hid hown5; have Hg5 := hid hg5; clear hown5 hg5)
          | (refine step_call32 (by rfl) 26 36 _ (by rfl) (.pointer (some ⟨q, 0, none⟩)) v5 (by simp [Act.eval, Act.put]) (by simp [Act.eval, Act.put]) _ (H32.out _ _ Ho5.out Hg5.out) ?_; rintro e w6 ⟨rfl, hcda⟩; have HP := hid hcda; clear hcda; refine ⟨_, rfl, ?_⟩)
          | fail)
        all_goals
          go_wp2_with fail
          go_ret
          rw [HC.out]
          exact ⟨rfl, HP.out⟩
      · go_wp2_with fail
        go_region_law (first
          | (refine step_append_own (by rfl) (.tmp 28) (.tmp 35) 64 (by rfl) w.heap.size 68 i0 _ 2 16 Tryz.underlying64 hi0 hz0 hz1' hz2 rfl (by decide) (.slice (some ⟨W3.heap.size, 0, none⟩) 1 1) 1 [.int .i64 x.1, .int .i64 o] (by simp [Act.eval, Act.put]) (by exact HOWN.out) ⟨g, (n + 1) * 2, none⟩ (l.length - (n + 1)) (cap - (n + 1)) (flatN (l.drop (n + 1))) (by simp [Act.eval, Act.put, hcn]) HLD.out (by exact HNWS.out) HONE.out (by unfold maxLen; omega) (by omega) (by exact HBA.out.size) ?_; intro v5 w5 hown5 hg5 _ _; have Ho5 := hid hown5; have Hg5 := hid hg5; clear hown5 hg5)
          | (refine step_call32 (by rfl) 26 36 _ (by rfl) (.pointer (some ⟨q, 0, none⟩)) v5 (by simp [Act.eval, Act.put]) (by simp [Act.eval, Act.put]) _ (H32.out _ _ Ho5.out Hg5.out) ?_; rintro e w6 ⟨rfl, hcda⟩; have HP := hid hcda; clear hcda; refine ⟨_, rfl, ?_⟩)
          | fail)
        all_goals
          go_wp2_with fail
          go_ret
          rw [HC.out]
          exact ⟨rfl, HP.out⟩

end Go.Proofs.YtjggdecjnnpjaaaGreat

