/- The document's Offset and number. -/
import Derived.Test.YtdnpbhijjmlecaaZ9
import Derived.Test.YtdnpbhijjmlecaaZ6
namespace Go.Proofs.Ytdnpbhijjmlecaa
open Go.RowKit Go.Maps
set_option maxRecDepth 100000
set_option linter.unusedSimpArgs false
set_option linter.unusedVariables false

set_option maxHeartbeats 1600000 in
theorem roffset_any {w : World} {b : Nat} {n : ByteArray} {vm vp vo vn : Value} {d : Dg} (h : DgR w b n vm vp vo vn d) (hf : d.offs.length ≤ 100000) (p : Int) : Calls Try.prog 27 #[.pointer (some ⟨b, 0, none⟩), .int .i64 p] w fun e w' => e = .returned (.int .i64 (firstK d.offs p)) ∧ w = w' := by
  have HI := hid h
  have k5 := h.c5
  obtain ⟨oa, cap, rfl, hcap, hcm, hnn, hat⟩ := row_shape h.offs
  have HAT := hid hat
  clear h hnn hcm hcap hat
  obtain ⟨R, hR⟩ : ∃ R, R = firstK d.offs p := ⟨_, rfl⟩
  have HR := hid hR
  rw [← hR]
  clear hR
  have HOF := hid HI.out.offs
  generalize d.offs = l at *
  go_enter Try.func27, Try.ntmps27
  go_wp2_with fail
  go_loopg [5] l.length (fun kx s5 wr => ∃ k : Nat, k ≤ l.length ∧ l.length - k ≤ kx ∧ s5 = .int .i64 (k : Int) ∧ Hid (∀ m ∈ l.take k, m.id ≠ p) ∧ wr = w)
  case atStart => exact ⟨0, Nat.zero_le _, by omega, rfl, by show ∀ m ∈ _, _; simp, rfl⟩
  case round =>
    obtain ⟨k, hk, hkx, rfl, HM, rfl⟩ := hrel
    by_cases hlt : k < l.length
    · obtain ⟨g, rfl⟩ := HAT.out (by omega)
      have hx : l[k]? = some l[k] := List.getElem?_eq_getElem hlt
      obtain ⟨c0, c1⟩ := row_kept2 HOF.out k _ hx
      have HT : Hid (l.take (k + 1) = l.take k ++ [l[k]]) := List.take_succ_eq_append_getElem hlt
      have HE : Hid (l[k].id = p → R = l[k].num) := fun e => HR.out.trans (firstK_at HM.out hlt e)
      have hlt' : (k : Int) < (l.length : Int) := by omega
      clear hx
      generalize l[k] = m at *
      by_cases he : m.id = p
      · have hr := HE.out he
        have heb : (m.id == p) = true := by simpa using he
        rw [he] at c0
        clear HE heb
        have HX := hid hr
        clear hr he
        go_wp2_with fail
        go_ret
        exact ⟨ret_int HX.out.symm, rfl⟩
      · have heb : (m.id == p) = false := by simpa using he
        have HN := hid he
        go_wp2_with fail
        go_roundg (l.length - (k + 1))
        case measure => omega
        case rel => exact ⟨k + 1, by omega, Nat.le_refl _, by go_num, by
          show ∀ m ∈ _, _
          rw [HT.out]
          intro y hy
          rcases List.mem_append.1 hy with hy | hy
          · exact HM.out y hy
          · obtain rfl := List.mem_singleton.1 hy; exact HN.out, rfl⟩
    · have hlt' : ¬ (k : Int) < (l.length : Int) := by omega
      have HN := HM.out
      rw [List.take_of_length_le (by omega)] at HN
      have HX := hid (HR.out.trans (firstK_none HN))
      clear HN
      go_wp2_with fail
      go_ret
      exact ⟨ret_int HX.out.symm, rfl⟩
set_option maxHeartbeats 1600000 in
theorem rnumber_any {w : World} {b : Nat} {n : ByteArray} {vm vp vo vn : Value} {d : Dg} (h : DgR w b n vm vp vo vn d) (hf : d.nums.length ≤ 100000) (p : Int) : Calls Try.prog 30 #[.pointer (some ⟨b, 0, none⟩), .int .i64 p] w fun e w' => e = .returned (.int .i64 (lastK (-1) d.nums p)) ∧ w = w' := by
  have HI := hid h
  have k6 := h.c6
  obtain ⟨oa, cap, rfl, hcap, hcm, hnn, hat⟩ := row_shape h.nums
  have HAT := hid hat
  clear h hnn hcm hcap hat
  have HOF := hid HI.out.nums
  generalize d.nums = l at *
  go_enter Try.func30, Try.ntmps30
  go_wp2_with fail
  go_loopg [5, 6] l.length (fun kx s5 s6 wr => ∃ (k : Nat) (R : Int), k ≤ l.length ∧ l.length - k ≤ kx ∧ s6 = .int .i64 (k : Int) ∧ s5 = .int .i64 R ∧ Hid (R = lastK (-1) (l.take k) p) ∧ wr = w)
  case atStart => exact ⟨0, -1, Nat.zero_le _, by omega, rfl, rfl, rfl, rfl⟩
  case round =>
    obtain ⟨k, R, hk, hkx, rfl, rfl, HM, rfl⟩ := hrel
    by_cases hlt : k < l.length
    · obtain ⟨g, rfl⟩ := HAT.out (by omega)
      have hx : l[k]? = some l[k] := List.getElem?_eq_getElem hlt
      obtain ⟨c0, c1⟩ := row_kept2 HOF.out k _ hx
      have HT := hid (lastK_take (-1) p l k hlt)
      have hlt' : (k : Int) < (l.length : Int) := by omega
      clear hx
      generalize l[k] = m at *
      by_cases he : m.id = p
      · have HTT : Hid (m.num = lastK (-1) (l.take (k + 1)) p) := hid (by rw [HT.out, if_pos he])
        rw [he] at c0
        clear he HT
        go_wp2_with fail
        go_roundg (l.length - (k + 1))
        case measure => omega
        case rel => exact ⟨k + 1, m.num, by omega, Nat.le_refl _, by go_num, rfl, HTT.out, rfl⟩
      · have heb : (m.id == p) = false := by simpa using he
        have HTT : Hid (R = lastK (-1) (l.take (k + 1)) p) := hid (by rw [HT.out, if_neg he]; exact HM.out)
        clear HT
        go_wp2_with fail
        go_roundg (l.length - (k + 1))
        case measure => omega
        case rel => exact ⟨k + 1, R, by omega, Nat.le_refl _, by go_num, rfl, HTT.out, rfl⟩
    · have hlt' : ¬ (k : Int) < (l.length : Int) := by omega
      have HN := HM.out
      rw [List.take_of_length_le (by omega)] at HN
      have HX := hid HN
      clear HN
      go_wp2_with fail
      go_ret
      exact ⟨ret_int HX.out, rfl⟩
end Go.Proofs.Ytdnpbhijjmlecaa

/- Whose a part is: of the member in whose share it stands. -/
namespace Go.Proofs.Ytdnpbhijjmlecaa
set_option linter.unusedSimpArgs false
set_option linter.unusedVariables false

theorem share_apart {l : List Int} (hl : l.Nodup) (k i j : Nat) (hij : i < j) (p : Int) (h1 : p ∈ shareL l k i) : p ∉ shareL l k j := by
  intro h2
  have a : p ∈ l.take (fromN l.length k (i + 1)) := by rw [take_share]; exact List.mem_append_right _ h1
  have hm : fromN l.length k (i + 1) ≤ fromN l.length k j := by
    have := from_mono l.length k (j - (i + 1)) (i + 1)
    rwa [show i + 1 + (j - (i + 1)) = j by omega] at this
  have a2 : p ∈ l.take (fromN l.length k j) := (List.take_subset_take_left l hm) a
  have b : p ∈ l.drop (fromN l.length k j) := List.mem_of_mem_take h2
  have hn : (l.take (fromN l.length k j) ++ l.drop (fromN l.length k j)).Nodup := by rw [List.take_append_drop]; exact hl
  exact (List.nodup_append.1 hn).2.2 p a2 p b rfl
theorem own_go (x : Gr) (hl : x.parts.Nodup) (p : Int) (k : Nat) (hp : p ∈ shareL x.parts x.mem.length k) (m : Mb) : ∀ (r : List Mb) (i : Nat), i ≤ k → r[k - i]? = some m → ownFrom x p i r = m.id
  | [], i, _, h => by simp at h
  | y :: r, i, hi, h => by
    unfold ownFrom
    by_cases e : i = k
    · subst e
      rw [if_pos (hasB_iff.2 hp)]
      simp at h; rw [h]
    · rw [if_neg (by rw [hasB_iff]; exact fun hh => share_apart hl _ i k (by omega) p hh hp)]
      refine own_go x hl p k hp m r (i + 1) (by omega) ?_
      rw [show k - i = (k - (i + 1)) + 1 by omega, List.getElem?_cons_succ] at h
      exact h
/-- A part that stands in a member's share is that member's. -/
theorem own_share (x : Gr) (hl : x.parts.Nodup) (k : Nat) (hk : k < x.mem.length) (p : Int) (hp : p ∈ shareL x.parts x.mem.length k) : ownerI x p = x.mem[k].id :=
  own_go x hl p k hp x.mem[k] x.mem 0 (Nat.zero_le _) (by simp [hk])
/-- Nobody: nothing is anybody's. -/
theorem own_none (x : Gr) (h : x.mem = []) (p : Int) : ownerI x p = 0 := by unfold ownerI; rw [h]; rfl
/-- The shares up to k add up. -/
theorem share_sum (l : List Int) (k : Nat) (hk : 0 < k) : fromN l.length k k = l.length := from_all _ _ hk
theorem place_at {N : Nat} {x : Gr} (h : GrOk N x) (k : Nat) (hk : k < x.mem.length) : placeN x.mem x.mem[k].id = some k := by
  have hd : ∀ (i j : Nat) (hi : i < x.mem.length) (hj : j < x.mem.length), i < j → x.mem[i].id < x.mem[j].id := fun i j hi hj hij => List.pairwise_iff_getElem.1 h.rise i j hi hj hij
  unfold placeN
  rw [List.findIdx?_eq_some_iff_getElem]
  refine ⟨hk, by simp, fun j hj => ?_⟩
  have := hd j k (by omega) hk hj
  simp; omega
/-- A member that syncs with the generation is told its share, and nothing changes. -/
theorem sync_at {N : Nat} {x : Gr} (h : GrOk N x) (k : Nat) (hk : k < x.mem.length) (m : Rc) (ha : m.a = x.mem[k].id) (hb : m.b = x.gen) : syncI x m = (x, ⟨0, m.a, x.gen, 0, shareL x.parts x.mem.length k⟩) := by
  have hp : placeN x.mem m.a = some k := by rw [ha]; exact place_at h k hk
  have hm : memE x m = 0 := by unfold memE hasM; rw [hp]; simp [hb]
  unfold syncI partsOf
  rw [hm, hp]; simp
theorem sync_all {N : Nat} {S : Gs} (h : GsOk N S) {m : Rc} {x : Gr} (hx : getG S.gs m.key = some x) (h6 : m.kind = 6) (k : Nat) (hk : k < x.mem.length) (ha : m.a = x.mem[k].id) (hb : m.b = x.gen) : applyI S m = (S, ⟨0, m.a, x.gen, 0, shareL x.parts x.mem.length k⟩) := by
  have hok : GrOk N x := (h.each _ (get_mem hx)).1
  unfold applyI askI
  rw [if_neg (by omega), if_pos (by omega), hx]
  have e1 : oneI x m = (x, ⟨0, m.a, x.gen, 0, shareL x.parts x.mem.length k⟩) := by
    unfold oneI
    rw [if_neg (by omega), if_neg (by omega), if_pos h6, sync_at hok k hk m ha hb]
  show (({ S with gs := setG S.gs m.key (oneI x m).1 } : Gs), (oneI x m).2) = _
  rw [e1]
  simp only
  rw [set_self h.names hx]
/-- What GroupOwners' rounds keep: the group, where there is one, has the partitions that were joined with. -/
def OwnP (S : Gs) (l : List Int) : Prop := ∀ x, getG S.gs [103] = some x → x.parts = l
theorem ownP_join {S : Gs} {l : List Int} (h : OwnP S l) (m : Rc) (hk : m.key = [103]) (h1 : m.kind = 1) (hl : m.list = l) : OwnP (applyI S m).1 l := by
  unfold applyI joinI
  rw [if_pos h1]
  by_cases hj : joinE S.gs m ≠ 0
  · rw [if_pos hj]; exact h
  · rw [if_neg hj]
    intro x hx
    simp only [hk] at hx
    rw [get_putG, if_pos rfl] at hx
    rw [← Option.some.inj hx]
    exact hl
theorem ownP_leave {S : Gs} {l : List Int} (h : OwnP S l) (m : Rc) (hk : m.key = [103]) (h2 : m.kind = 2) : OwnP (applyI S m).1 l := by
  unfold applyI askI
  rw [if_neg (by omega), if_pos (by omega), hk]
  cases hx : getG S.gs [103] with
  | none => exact h
  | some x =>
    intro y hy
    simp only at hy
    rw [get_setG, if_pos rfl, hx] at hy
    have e := Option.some.inj hy
    rw [← e]
    unfold oneI leaveI
    rw [if_pos h2]
    split <;> exact h x hx
end Go.Proofs.Ytdnpbhijjmlecaa

/- The document's parts of a member, and owner of a part. -/
namespace Go.Proofs.Ytdnpbhijjmlecaa
open Go.RowKit Go.Maps
set_option maxRecDepth 100000
set_option linter.unusedSimpArgs false
set_option linter.unusedVariables false

/-- The share of a member of a list of ids. -/
def partsD (ids parts : List Int) (m : Int) : List Int := match ids.findIdx? (fun x => x == m) with | some i => shareL parts ids.length i | none => []
theorem partsD_at {ids parts : List Int} {m : Int} {k : Nat} (h : ∀ x ∈ ids.take k, x ≠ m) (hk : k < ids.length) (e : ids[k] = m) : partsD ids parts m = shareL parts ids.length k := by
  have : ids.findIdx? (fun x => x == m) = some k := by
    rw [List.findIdx?_eq_some_iff_getElem]
    refine ⟨hk, by simpa using e, fun j hj => ?_⟩
    have := h ids[j] (by rw [List.mem_take_iff_getElem]; exact ⟨j, by omega, rfl⟩)
    simpa using this
  unfold partsD
  rw [this]
theorem partsD_none {ids parts : List Int} {m : Int} (h : ∀ x ∈ ids, x ≠ m) : partsD ids parts m = [] := by
  have : ids.findIdx? (fun x => x == m) = none := by rw [List.findIdx?_eq_none_iff]; intro x hx; simpa using h x hx
  unfold partsD
  rw [this]
/-- Whose a part is, of a list of ids. -/
def ownD (ids parts : List Int) (p : Int) : List Int → Int
  | [] => 0
  | m :: r => if hasB (partsD ids parts m) p then m else ownD ids parts p r
theorem RInv.cellIn {w wr : World} {v : Value} {l : List Int} {k : Nat} (h : RInv w wr v l k k) (j : Nat) (hj : j < k) : ∃ g c x, v = .slice (some ⟨g, 0, none⟩) k c ∧ wr.cell? ⟨g, j, none⟩ = some x ∧ IL wr x (shareL l k j) ∧ In (fun b => w.heap.size ≤ b) x (shareL l k j) := by
  obtain ⟨ds, d1, d2, d3, d4⟩ := h
  obtain ⟨oa, cap, e, _, _, _, hat⟩ := row_shape (row_base d2)
  obtain ⟨g, rfl⟩ := hat (by omega)
  subst e
  have hc := World.ownsRow.cells d2 (g := g) rfl j ds[j] (by simp [List.getElem?_eq_getElem (show j < ds.length by omega)])
  rw [add_at, Nat.zero_add] at hc
  exact ⟨g, cap, _, rfl, hc, (d3 j (by omega)).1, (d3 j (by omega)).2.mono fun b hb => hb.1⟩
set_option maxHeartbeats 1600000 in
theorem rparts_any {w : World} {b : Nat} {n : ByteArray} {vm vp vo vn : Value} {d : Dg} (h : DgR w b n vm vp vo vn d) (m : Int) : Calls Try.prog 29 #[.pointer (some ⟨b, 0, none⟩), .int .i64 m] w fun e w' => ∃ a c, e = .returned (.slice a (partsD d.mem d.parts m).length c) ∧ IL w' (.slice a (partsD d.mem d.parts m).length c) (partsD d.mem d.parts m) ∧ In (fun k => w.heap.size ≤ k) (.slice a (partsD d.mem d.parts m).length c) (partsD d.mem d.parts m) ∧ Below w.heap.size w w' := by
  have HI := hid h
  have k3 := h.c3
  have k4 := h.c4
  have HAS : Hid (∀ W, Below w.heap.size w W → Calls Try.prog 16 #[vm, vp] W fun e w' => ∃ v', e = .returned v' ∧ RInv W w' v' d.parts d.mem.length d.mem.length) := fun W hW => rassign_any (HI.out.il.under hW) (HI.out.parts.under hW) HI.out.few
  have hfew := h.few
  have HIM := hid h.il
  obtain ⟨⟨ma, mc, rfl, _⟩, _⟩ := h.il
  obtain ⟨⟨pa, pc, rfl, _⟩, _⟩ := h.parts
  have HPD : Hid (∀ k (hk : k < d.mem.length), (∀ x ∈ d.mem.take k, x ≠ m) → d.mem[k] = m → partsD d.mem d.parts m = shareL d.parts d.mem.length k) := fun k hk h1 h2 => partsD_at h1 hk h2
  have HPN : Hid ((∀ x ∈ d.mem, x ≠ m) → partsD d.mem d.parts m = []) := fun h1 => partsD_none h1
  have HK3 : Hid (∀ W, Below w.heap.size w W → W.cell? ⟨b, 3, none⟩ = some (.slice ma d.mem.length mc)) := fun W hW => kept_cell hW k3
  clear h
  generalize partsD d.mem d.parts m = R at *
  generalize d.mem = ms at *
  generalize d.parts = ps at *
  have hB0 : Below w.heap.size w w := Below.refl _ _
  go_enter Try.func29, Try.ntmps29
  go_wp2_with fail
  go_region_held3 (fun V => V.cell? ⟨b, 3, none⟩ = some (.slice ma ms.length mc) ∧ V.cell? ⟨b, 4, none⟩ = some (.slice pa ps.length pc)) (go_keep) (first
    | (go_at_call 16; refine (HAS.out _ (by first | exact hB0 | exact hB0.drew)).mono ?_; rintro e w1 ⟨v1, rfl, hri⟩; have HRI := hid hri; have hB1 := (show Below w.heap.size w _ by first | exact hB0 | exact hB0.drew).trans hri.below; have q3 := kept_cell hB1 k3; have q4 := kept_cell hB1 k4; clear hri)
    | fail)
  have HB1 := hid hB1
  have hsz : w.heap.size ≤ w1.heap.size := hB1.size
  have hrs := HRI.out.shape
  obtain ⟨ra, rc, rfl⟩ := hrs
  have HRC : Hid (∀ j, j < ms.length → ∃ g c x, (Value.slice ra ms.length rc) = .slice (some ⟨g, 0, none⟩) ms.length c ∧ w1.cell? ⟨g, j, none⟩ = some x ∧ IL w1 x (shareL ps ms.length j) ∧ In (fun b => w.heap.size ≤ b) x (shareL ps ms.length j)) := fun j hj => by
    obtain ⟨g, c, x, e1, e2, e3, e4⟩ := HRI.out.cellIn j hj
    exact ⟨g, c, x, e1, e2, e3, e4⟩
  clear hB1 HRI HAS q4 k3 k4
  go_wp2_with fail
  go_loopg [6] ms.length (fun kx s6 wr => ∃ k : Nat, k ≤ ms.length ∧ ms.length - k ≤ kx ∧ s6 = .int .i64 (k : Int) ∧ Hid (∀ x ∈ ms.take k, x ≠ m) ∧ wr = w1)
  case atStart => exact ⟨0, Nat.zero_le _, by omega, rfl, by show ∀ x ∈ _, _; simp, rfl⟩
  case round =>
    obtain ⟨k, hk, hkx, rfl, HM, hw⟩ := hrel
    subst hw
    by_cases hlt : k < ms.length
    · have hlt' : (k : Int) < (ms.length : Int) := by omega
      obtain ⟨g0, o0, rfl, hmc⟩ := (HIM.out.under HB1.out).cellAt k hlt
      have HT : Hid (ms.take (k + 1) = ms.take k ++ [ms[k]]) := List.take_succ_eq_append_getElem hlt
      have HP := hid (HPD.out k hlt HM.out)
      have hx := HRC.out k hlt
      generalize ms[k] = y at *
      by_cases he : y = m
      · have HR := hid (HP.out he)
        obtain ⟨g, c, x, e1, e2, e3, e4⟩ := hx
        obtain ⟨⟨xa, xc, rfl, _⟩, _⟩ := id e3
        have HX3 := hid e3
        have HX4 := hid e4
        have HE1 := hid e1
        simp only [Value.slice.injEq] at e1
        obtain ⟨rfl, _, rfl⟩ := e1
        rw [he] at hmc
        clear e3 e4 he HP
        go_wp2_with fail
        go_ret
        have e := HR.out
        rw [e]
        exact ⟨xa, xc, rfl, HX3.out, HX4.out, HB1.out⟩
      · have heb : (y == m) = false := by simpa using he
        have HN := hid he
        clear HP hx
        go_wp2_with fail
        go_roundg (ms.length - (k + 1))
        case measure => omega
        case rel => exact ⟨k + 1, by omega, Nat.le_refl _, by go_num, by
          show ∀ x ∈ _, _
          rw [HT.out]
          intro z hz
          rcases List.mem_append.1 hz with hz | hz
          · exact HM.out z hz
          · obtain rfl := List.mem_singleton.1 hz; exact HN.out, rfl⟩
    · have hlt' : ¬ (k : Int) < (ms.length : Int) := by omega
      have HN := HM.out
      rw [List.take_of_length_le (by omega)] at HN
      have HR := hid (HPN.out HN)
      clear HN
      go_wp2_with fail
      go_ret
      have e := HR.out
      rw [e]
      exact ⟨none, 0, rfl, IL.nil _, In.nil _ _, HB1.out⟩
set_option maxHeartbeats 1600000 in
theorem rowner_any {w : World} {b : Nat} {n : ByteArray} {vm vp vo vn : Value} {d : Dg} (h : DgR w b n vm vp vo vn d) (p : Int) : Calls Try.prog 31 #[.pointer (some ⟨b, 0, none⟩), .int .i64 p] w fun e w' => e = .returned (.int .i64 (ownD d.mem d.parts p d.mem)) ∧ Below w.heap.size w w' := by
  have HI := hid h
  have hfew := h.few
  have HIM := hid h.il
  have HK3 : Hid (∀ W, Below w.heap.size w W → W.cell? ⟨b, 3, none⟩ = some vm) := fun W hW => kept_cell hW HI.out.c3
  obtain ⟨⟨ma, mc, rfl, _⟩, _⟩ := h.il
  have HPA : Hid (∀ W m, Below w.heap.size w W → Calls Try.prog 29 #[.pointer (some ⟨b, 0, none⟩), .int .i64 m] W fun e w' => ∃ a c, e = .returned (.slice a (partsD d.mem d.parts m).length c) ∧ IL w' (.slice a (partsD d.mem d.parts m).length c) (partsD d.mem d.parts m) ∧ Below W.heap.size W w') := fun W m hW => (rparts_any (HI.out.under hW) m).mono fun e w' ⟨a, c, h1, h2, _, h4⟩ => ⟨a, c, h1, h2, h4⟩
  have HOW : Hid (∀ l m r, l = m :: r → ownD d.mem d.parts p l = if hasB (partsD d.mem d.parts m) p then m else ownD d.mem d.parts p r) := fun l m r e => by rw [e]; rfl
  have HO0 : Hid (ownD d.mem d.parts p [] = 0) := rfl
  clear h
  generalize partsD d.mem d.parts = PD at *
  generalize ownD d.mem d.parts p = OD at *
  clear HI
  generalize d.mem = ms at *
  go_enter Try.func31, Try.ntmps31
  go_wp2_with fail
  go_loopg [5] ms.length (fun kx s5 wr => ∃ k : Nat, k ≤ ms.length ∧ ms.length - k ≤ kx ∧ s5 = .int .i64 (k : Int) ∧ Hid (OD ms = OD (ms.drop k)) ∧ Hid (Below w.heap.size w wr))
  case atStart => exact ⟨0, Nat.zero_le _, by omega, rfl, rfl, Below.refl _ _⟩
  case round =>
    obtain ⟨k, hk, hkx, rfl, HM, HB⟩ := hrel
    have k3 := HK3.out wr HB.out
    by_cases hlt : k < ms.length
    · have hlt' : (k : Int) < (ms.length : Int) := by omega
      obtain ⟨g0, o0, rfl, hmc⟩ := (HIM.out.under HB.out).cellAt k hlt
      have HS := hid (HOW.out (ms.drop k) ms[k] (ms.drop (k + 1)) (List.drop_eq_getElem_cons hlt))
      generalize ms[k] = y at *
      have HP := hid (HPA.out wr y HB.out)
      generalize PD y = L at *
      go_wp2_with fail
      refine HP.out.mono ?_
      rintro e w2 ⟨la, lc, rfl, hil, hb2⟩
      have HB2 := hid (HB.out.trans (hb2.mono HB.out.size))
      have HH := hid (rhas_any hil p)
      have q3 := HK3.out w2 HB2.out
      have hmc2 := kept_cell hb2 hmc
      clear hil hb2 HP
      cases hB : hasB L p with
      | true =>
        rw [hB] at HH HS
        have HE := hid (HM.out.trans (HS.out.trans (if_pos rfl)))
        clear hB HS
        go_wp2_with fail
        refine HH.out.mono ?_
        rintro e w3 ⟨rfl, rfl⟩
        go_wp2_with fail
        go_ret
        exact ⟨ret_int HE.out.symm, HB2.out⟩
      | false =>
        rw [hB] at HH HS
        have HE := hid (HM.out.trans (HS.out.trans (if_neg (by simp))))
        clear hB HS
        go_wp2_with fail
        refine HH.out.mono ?_
        rintro e w3 ⟨rfl, rfl⟩
        go_wp2_with fail
        go_roundg (ms.length - (k + 1))
        case measure => omega
        case rel => exact ⟨k + 1, by omega, Nat.le_refl _, by go_num, HE.out, HB2.out⟩
    · have hlt' : ¬ (k : Int) < (ms.length : Int) := by omega
      have HE : Hid (OD ms = 0) := by
        have e := HM.out
        rw [List.drop_of_length_le (by omega)] at e
        exact e.trans HO0.out
      go_wp2_with fail
      go_ret
      exact ⟨ret_int HE.out.symm, HB.out⟩
end Go.Proofs.Ytdnpbhijjmlecaa

/- The document's group beside the program's, without memory. -/
namespace Go.Proofs.Ytdnpbhijjmlecaa
set_option linter.unusedSimpArgs false
set_option linter.unusedVariables false

/-- The document's group is the program's. -/
structure RelG (N : Nat) (d : Dg) (x : Gr) : Prop where
  gen : d.gen = x.gen
  ever : d.ever = x.ever
  mem : d.mem = idsL x
  parts : d.parts = x.parts
  offs : ∀ p, firstK d.offs p = offI x p
  nums : ∀ m ∈ x.mem, lastK (-1) d.nums m.id = m.num
  keys : ∀ m ∈ d.nums, m.id ≤ x.ever
  olen : d.offs.length ≤ N
  nlen : d.nums.length ≤ N
theorem ids_rise {N : Nat} {x : Gr} (h : GrOk N x) : (idsL x).Pairwise (fun a b => a < b) := by
  unfold idsL
  rw [List.pairwise_map]
  exact h.rise
theorem ids_nodup {N : Nat} {x : Gr} (h : GrOk N x) : (idsL x).Nodup := (ids_rise h).imp (fun hab => by omega)
theorem rel_has {N M : Nat} {d : Dg} {x : Gr} (h : RelG N d x) (a : Int) : hasB d.mem a = hasM x a := by
  rw [h.mem]
  cases hp : placeN x.mem a with
  | none =>
    unfold hasM
    rw [hp]
    show hasB (idsL x) a = false
    rw [hasB_not]
    intro hm
    obtain ⟨m, hm, e⟩ := List.mem_map.1 hm
    exact place_none.1 hp m hm e
  | some i =>
    unfold hasM
    obtain ⟨m, h1, h2, h3⟩ := place_some hp
    rw [hp]
    exact hasB_iff.2 (List.mem_map.2 ⟨m, List.mem_of_getElem? h1, h2⟩)
theorem findIdx_ids (ms : List Mb) (a : Int) : (ms.map (·.id)).findIdx? (fun y => y == a) = placeN ms a := by
  unfold placeN
  rw [List.findIdx?_map]
  rfl
theorem rel_parts {N : Nat} {d : Dg} {x : Gr} (h : RelG N d x) (a : Int) (ha : hasM x a = true) : partsD d.mem d.parts a = partsOf x a := by
  unfold partsD partsOf
  rw [h.mem, h.parts, show idsL x = x.mem.map (·.id) from rfl, findIdx_ids]
  unfold hasM at ha
  cases hp : placeN x.mem a with
  | none => rw [hp] at ha; cases ha
  | some i => simp
theorem rel_num {N : Nat} {d : Dg} {x : Gr} (h : RelG N d x) (a : Int) (ha : hasM x a = true) : lastK (-1) d.nums a = numOf x a := by
  unfold hasM at ha
  unfold numOf
  cases hp : placeN x.mem a with
  | none => rw [hp] at ha; cases ha
  | some i =>
    obtain ⟨m, h1, h2, h3⟩ := place_some hp
    have := h.nums m (List.mem_of_getElem? h1)
    rw [h2] at this
    rw [this]
    simp [h1]
theorem own_go2 (x : Gr) (hn : (idsL x).Pairwise (fun a b => a < b)) (p : Int) : ∀ (r : List Mb) (i : Nat), x.mem.drop i = r → ownD (idsL x) x.parts p (r.map (·.id)) = ownFrom x p i r
  | [], i, _ => rfl
  | m :: r, i, e => by
    have hi : i < x.mem.length := by
      by_cases hlt : i < x.mem.length
      · exact hlt
      · rw [List.drop_of_length_le (by omega)] at e; cases e
    have em : x.mem[i] = m := by rw [List.drop_eq_getElem_cons hi] at e; exact (List.cons.inj e).1
    have er : x.mem.drop (i + 1) = r := by rw [List.drop_eq_getElem_cons hi] at e; exact (List.cons.inj e).2
    have hp : partsD (idsL x) x.parts m.id = shareL x.parts (idsL x).length i := by
      have hl : i < (idsL x).length := by simp [idsL, hi]
      refine partsD_at (fun y hy hc => ?_) hl (by simp [idsL, em])
      obtain ⟨j, hj, e2⟩ := List.mem_take_iff_getElem.1 hy
      have hj2 : j < (idsL x).length := by omega
      have e3 : (idsL x)[i] = m.id := by simp [idsL, em]
      have := List.pairwise_iff_getElem.1 hn j i hj2 hl (by omega)
      rw [e2, e3, hc] at this
      omega
    show (if hasB (partsD (idsL x) x.parts m.id) p then m.id else ownD (idsL x) x.parts p (r.map (·.id))) = ownFrom x p i (m :: r)
    unfold ownFrom
    rw [hp, own_go2 x hn p r (i + 1) er, show (idsL x).length = x.mem.length by simp [idsL]]
theorem rel_own {N M : Nat} {d : Dg} {x : Gr} (h : RelG N d x) (ho : GrOk M x) (p : Int) : ownD d.mem d.parts p d.mem = ownerI x p := by
  rw [h.mem, h.parts]
  exact own_go2 x (ids_rise ho) p x.mem 0 rfl
/-- What the document does to a group. -/
def leaveD (d : Dg) (a : Int) : Dg := { d with mem := d.mem.filter (fun y => !(y == a)), gen := d.gen + 1 }
def commitD (d : Dg) (m : Rc) : Dg := { d with offs := d.offs.filter (fun y => !(y.id == m.c)) ++ [⟨m.c, m.d⟩], nums := d.nums ++ [⟨m.a, m.list.headD 0⟩] }
def joinDD (d : Dg) (m : Rc) : Dg := if m.a = 0 then { d with ever := d.ever + 1, mem := d.mem ++ [d.ever + 1], parts := m.list, gen := d.gen + 1 } else { d with parts := m.list, gen := d.gen + 1 }
theorem erase_filter : ∀ (ms : List Mb) (a : Int) (i : Nat), ms.Pairwise (fun x y => x.id < y.id) → placeN ms a = some i → (ms.eraseIdx i).map (·.id) = (ms.map (·.id)).filter (fun y => !(y == a))
  | [], a, i, _, h => by cases h
  | m :: r, a, i, hp, h => by
    have hp' := List.pairwise_cons.1 hp
    unfold placeN at h
    rw [List.findIdx?_cons] at h
    by_cases e : m.id = a
    · rw [if_pos (by simpa using e)] at h
      obtain rfl := Option.some.inj h
      have hall : (r.map (·.id)).filter (fun y => !(y == a)) = r.map (·.id) := by
        rw [List.filter_eq_self]
        intro y hy
        obtain ⟨z, hz, rfl⟩ := List.mem_map.1 hy
        have := hp'.1 z hz
        simp; omega
      simp only [List.eraseIdx_cons_zero, List.map_cons]
      rw [List.filter_cons_of_neg (by simp [e]), hall]
    · rw [if_neg (by simpa using e)] at h
      obtain ⟨j, hj, rfl⟩ := Option.map_eq_some_iff.1 h
      have ih := erase_filter r a j hp'.2 hj
      simp only [List.eraseIdx_cons_succ, List.map_cons]
      rw [List.filter_cons_of_pos (by simp [e]), ih]
theorem rel_leave {N M : Nat} {d : Dg} {x : Gr} (h : RelG N d x) (ho : GrOk M x) (m : Rc) (ha : hasM x m.a = true) : RelG N (leaveD d m.a) (leaveI x m).1 ∧ (leaveI x m).2 = ⟨0, m.a, d.gen + 1, 0, []⟩ := by
  unfold hasM at ha
  unfold leaveI
  cases hp : placeN x.mem m.a with
  | none => rw [hp] at ha; cases ha
  | some i =>
    refine ⟨⟨by show d.gen + 1 = x.gen + 1; rw [h.gen], h.ever, ?_, h.parts, h.offs, fun y hy => h.nums y (List.mem_of_mem_eraseIdx hy), h.keys, h.olen, h.nlen⟩, by rw [h.gen]⟩
    show d.mem.filter _ = (x.mem.eraseIdx i).map (·.id)
    rw [h.mem, erase_filter x.mem m.a i ho.rise hp]; rfl
theorem firstK_commit (l : List Mb) (c v p : Int) : firstK (l.filter (fun y => !(y.id == c)) ++ [⟨c, v⟩]) p = if c = p then v else firstK l p := by
  unfold firstK
  rw [List.find?_append]
  by_cases e : c = p
  · subst e
    rw [if_pos rfl]
    have : (l.filter (fun y => !(y.id == c))).find? (fun m => m.id == c) = none := by
      rw [List.find?_eq_none]
      intro y hy
      have := (List.mem_filter.1 hy).2
      simpa using this
    rw [this]
    simp
  · rw [if_neg e]
    have hf : (l.filter (fun y => !(y.id == c))).find? (fun m => m.id == p) = l.find? (fun m => m.id == p) := by
      rw [List.find?_filter]
      congr 1
      funext a
      by_cases ha : a.id = p
      · have h1 : ¬ a.id = c := fun h => e (h.symm.trans ha)
        have h2 : ¬ p = c := fun h => e h.symm
        simp [ha, h1, h2]
      · simp [ha]
    rw [hf]
    cases h : l.find? (fun a => a.id == p) with
    | some y => simp
    | none => simp [e]
theorem setNum_mem (ms : List Mb) (i : Nat) (v : Int) : (setNum ms i v).map (·.id) = ms.map (·.id) := by
  unfold setNum
  apply List.ext_getElem?
  intro j
  simp only [List.getElem?_map, List.getElem?_modify]
  by_cases e : i = j
  · subst e; cases ms[i]? <;> simp
  · simp [e]
theorem rel_commit {N M : Nat} {d : Dg} {x : Gr} (h : RelG N d x) (ho : GrOk M x) (m : Rc) (ha : hasM x m.a = true) (hc : comE x m = 0) : RelG (N + 1) (commitD d m) (commitI x m).1 ∧ (commitI x m).2 = ⟨0, m.a, d.gen, m.d, []⟩ := by
  unfold commitI
  rw [if_neg (by rw [hc]; simp)]
  unfold hasM at ha
  cases hp : placeN x.mem m.a with
  | none => rw [hp] at ha; cases ha
  | some i =>
    obtain ⟨y, h1, h2, h3⟩ := place_some hp
    refine ⟨⟨h.gen, h.ever, ?_, h.parts, fun p => ?_, fun z hz => ?_, fun z hz => ?_, ?_, ?_⟩, by rw [h.gen]⟩
    · show d.mem = (setNum x.mem _ _).map (·.id)
      rw [setNum_mem, h.mem]; rfl
    · show firstK (d.offs.filter _ ++ _) p = (getO (putO x.offs m.c m.d) p).getD (-1)
      rw [firstK_commit, get_putO]
      by_cases e : m.c = p
      · rw [if_pos e, if_pos e]; rfl
      · rw [if_neg e, if_neg e]; exact h.offs p
    · show lastK (-1) (d.nums ++ _) z.id = z.num
      rw [lastK_snoc]
      have hz' : z ∈ setNum x.mem i (m.list.headD 0) := by simpa [hp] using hz
      unfold setNum at hz'
      obtain ⟨j, hj, e⟩ := List.mem_iff_getElem.1 hz'
      rw [List.getElem_modify] at e
      have hjl : j < x.mem.length := by simpa using hj
      by_cases eij : i = j
      · rw [if_pos eij] at e
        have ez : z.id = m.a := by
          rw [← e]
          show (x.mem[j]).id = m.a
          have : x.mem[i]? = some x.mem[j] := by rw [eij]; exact List.getElem?_eq_getElem hjl
          rw [this] at h1
          rw [Option.some.inj h1, h2]
        rw [if_pos (show m.a = z.id from ez.symm), ← e]
      · rw [if_neg eij] at e
        have hne : ¬ m.a = z.id := by
          intro ea
          have hil : i < x.mem.length := h3
          have e1 : x.mem[i].id = x.mem[j].id := by
            have : x.mem[i]? = some x.mem[i] := List.getElem?_eq_getElem hil
            rw [this] at h1
            rw [Option.some.inj h1, h2, e, ea]
          rcases Nat.lt_or_ge i j with hlt | hge
          · have := List.pairwise_iff_getElem.1 ho.rise i j hil hjl hlt; omega
          · have := List.pairwise_iff_getElem.1 ho.rise j i hjl hil (by omega); omega
        rw [if_neg hne]
        exact h.nums z (by rw [← e]; simp)
    · rcases List.mem_append.1 hz with hz | hz
      · exact h.keys z hz
      · obtain rfl := List.mem_singleton.1 hz
        have := (ho.mems y (List.mem_of_getElem? h1)).2.1
        show m.a ≤ x.ever
        omega
    · show (d.offs.filter _ ++ [_]).length ≤ N + 1
      have := List.length_filter_le (fun y : Mb => !(y.id == m.c)) d.offs
      have := h.olen
      simp; omega
    · show (d.nums ++ [_]).length ≤ N + 1
      have := h.nlen
      simp; omega
theorem rel_join {N M : Nat} {d : Dg} {x : Gr} (h : RelG N d x) (ho : GrOk M x) (m : Rc) : RelG N (joinDD d m) (joinG x m) := by
  unfold joinDD joinG joinX
  by_cases e : m.a = 0
  · rw [if_pos e, if_pos e]
    refine ⟨by show d.gen + 1 = x.gen + 1; rw [h.gen], by show d.ever + 1 = x.ever + 1; rw [h.ever], ?_, rfl, h.offs, fun z hz => ?_, fun z hz => ?_, h.olen, h.nlen⟩
    · show d.mem ++ [d.ever + 1] = List.map (fun z : Mb => z.id) (x.mem ++ [⟨x.ever + 1, -1⟩])
      rw [h.mem, h.ever]; simp [idsL]
    · rcases List.mem_append.1 hz with hz | hz
      · exact h.nums z hz
      · obtain rfl := List.mem_singleton.1 hz
        show lastK (-1) d.nums (x.ever + 1) = -1
        have : ∀ (l : List Mb) (n : Int), (∀ y : Mb, y ∈ l → y.id ≤ x.ever) → lastK n l (x.ever + 1) = n := by
          intro l
          induction l with
          | nil => intro n _; rfl
          | cons y r ih =>
            intro n hy
            have h1 := hy y (List.mem_cons_self ..)
            show lastK (if y.id = x.ever + 1 then y.num else n) r (x.ever + 1) = n
            rw [if_neg (by omega)]
            exact ih n (fun z hz => hy z (List.mem_cons_of_mem _ hz))
        exact this d.nums (-1) h.keys
    · have := h.keys z hz
      show z.id ≤ x.ever + 1
      omega
  · rw [if_neg e, if_neg e]
    exact ⟨by show d.gen + 1 = x.gen + 1; rw [h.gen], h.ever, h.mem, rfl, h.offs, h.nums, h.keys, h.olen, h.nlen⟩
def Dg.zero : Dg := ⟨0, 0, [], [], [], []⟩
theorem rel_zero (N : Nat) : RelG N Dg.zero Gr.zero := ⟨rfl, rfl, rfl, rfl, fun p => rfl, fun m hm => (by cases hm), fun m hm => (by cases hm), by simp [Dg.zero], by simp [Dg.zero]⟩
end Go.Proofs.Ytdnpbhijjmlecaa

/- The document's groups: who owns which block; an entry is turned. -/
namespace Go.Proofs.Ytdnpbhijjmlecaa
open Go.RowKit Go.Maps
set_option maxRecDepth 100000
set_option linter.unusedSimpArgs false
set_option linter.unusedVariables false

/-- The blocks of an entry that calls turn. -/
def OwnE (e : Ent) (k : Nat) : Prop := k = e.b ∨ e.vm.ownBlock = some k ∨ e.vo.ownBlock = some k ∨ e.vn.ownBlock = some k
structure SelfE (e : Ent) : Prop where
  m : e.vm.ownBlock ≠ some e.b
  o : e.vo.ownBlock ≠ some e.b
  n : e.vn.ownBlock ≠ some e.b
  mo : ∀ k, e.vm.ownBlock = some k → e.vo.ownBlock ≠ some k
  mn : ∀ k, e.vm.ownBlock = some k → e.vn.ownBlock ≠ some k
  on : ∀ k, e.vo.ownBlock = some k → e.vn.ownBlock ≠ some k
/-- The groups in memory, on blocks of Z, all apart. -/
structure DM (Z : Nat → Prop) (w : World) (r : Nat) (vl : Value) (es : List Ent) (ep : Int) : Prop where
  c : DC w r vl es ep
  rz : Z r
  lz : ∀ k, vl.ownBlock = some k → Z k
  lr : vl.ownBlock ≠ some r
  own : ∀ e ∈ es, ∀ k, OwnE e k → Z k ∧ k ≠ r ∧ vl.ownBlock ≠ some k
  ap : es.Pairwise fun a b => ∀ k, OwnE a k → ¬ OwnE b k
  self : ∀ e ∈ es, SelfE e
  ps : ∀ e ∈ es, In (fun k => Z k ∧ k ≠ r ∧ vl.ownBlock ≠ some k ∧ ∀ f ∈ es, ¬ OwnE f k) e.vp e.d.parts
  zlt : ∀ k, Z k → k < w.heap.size
theorem OwnE.lt {w : World} {e : Ent} (h : DEnt w e) {k : Nat} (hk : OwnE e k) : k < w.heap.size := by
  rcases hk with rfl | hk | hk | hk
  · exact DgR.lt h
  · exact row_lt (DgR.mem h) hk
  · exact row_lt (DgR.offs h) hk
  · exact row_lt (DgR.nums h) hk
/-- What lies in blocks that stay is as it was. -/
theorem DEnt.kept {w W : World} {e : Ent} (h : DEnt w e) {X : Nat → Prop} (ho : ∀ k, OwnE e k → X k) (hp : In X e.vp e.d.parts) (hx : ∀ k, X k → k < w.heap.size → W.heap[k]? = w.heap[k]?) (hs : w.heap.size ≤ W.heap.size) : DEnt W e := by
  have h' : DgR w e.b e.n e.vm e.vp e.vo e.vn e.d := h
  exact (⟨(hx _ (ho _ (.inl rfl)) h'.lt).trans h'.cells, row_kept h'.mem (fun k hk => hx k (ho k (.inr (.inl hk))) (row_lt h'.mem hk)), h'.m64, h'.few, h'.parts.kept (X := fun k => X k ∧ k < w.heap.size) (fun hne b off n c e => ⟨hp hne b off n c e, h'.parts.old hne b off n c e⟩) (fun k hk => hx k hk.1 hk.2) hs, row_kept h'.offs (fun k hk => hx k (ho k (.inr (.inr (.inl hk)))) (row_lt h'.offs hk)), row_kept h'.nums (fun k hk => hx k (ho k (.inr (.inr (.inr hk)))) (row_lt h'.nums hk)), h'.o64, h'.n64⟩ : DgR W e.b e.n e.vm e.vp e.vo e.vn e.d)
/-- An entry is turned; new blocks are the groups'. -/
theorem DM.turn {Z : Nat → Prop} {w w' : World} {r : Nat} {vl : Value} {es : List Ent} {ep : Int} (h : DM Z w r vl es ep) (i : Nat) (hi : i < es.length) (hk : Keeps (OwnE es[i]) w w') (e' : Ent) (hb : e'.b = es[i].b) (he : DEnt w' e') (ho : ∀ k, OwnE e' k → OwnE es[i] k ∨ (w.heap.size ≤ k ∧ k < w'.heap.size)) (hs : SelfE e') (hp : In (fun k => w.heap.size ≤ k ∧ k < w'.heap.size ∧ ¬ OwnE e' k) e'.vp e'.d.parts ∨ (e'.vp = es[i].vp ∧ e'.d.parts = es[i].d.parts)) : DM (fun k => Z k ∨ (w.heap.size ≤ k ∧ k < w'.heap.size)) w' r vl (es.set i e') ep := by
  have hmem : es[i] ∈ es := List.getElem_mem hi
  have hsz := hk.size
  have hst : ∀ k, k < w.heap.size → ¬ OwnE es[i] k → w'.heap[k]? = w.heap[k]? := fun k h1 h2 => hk.block k h1 h2
  have hap : ∀ j (hj : j < es.length), j ≠ i → ∀ k, OwnE es[j] k → ¬ OwnE es[i] k := fun j hj hne k h1 h2 => by
    rcases Nat.lt_or_ge j i with hlt | hge
    · exact List.pairwise_iff_getElem.1 h.ap j i hj hi hlt k h1 h2
    · exact List.pairwise_iff_getElem.1 h.ap i j hi hj (by omega) k h2 h1
  have hrn : ¬ OwnE es[i] r := fun hr => (h.own _ hmem r hr).2.1 rfl
  have hln : ∀ k, vl.ownBlock = some k → ¬ OwnE es[i] k := fun k hl hr => (h.own _ hmem k hr).2.2 hl
  have hcase : ∀ e ∈ es.set i e', e = e' ∨ ∃ j, ∃ hj : j < es.length, j ≠ i ∧ e = es[j] := fun e hm => by
    obtain ⟨j, hj, rfl⟩ := List.mem_iff_getElem.1 hm
    have hj' : j < es.length := by simpa using hj
    by_cases hji : i = j
    · subst hji; exact .inl (by simp)
    · exact .inr ⟨j, hj', fun e => hji e.symm, by rw [List.getElem_set_ne hji]⟩
  have hold : ∀ j (hj : j < es.length), j ≠ i → ∀ k, OwnE es[j] k → k < w.heap.size := fun j hj _ k hk' => OwnE.lt (h.c.each _ (List.getElem_mem hj)) hk'
  have hptr : ptrs (es.set i e') = ptrs es := by
    unfold ptrs
    rw [List.map_set, hb]
    apply List.ext_getElem (by simp)
    intro j h1 h2
    rw [List.getElem_set]
    split
    · subst_vars; simp
    · rfl
  refine ⟨⟨?_, ?_, fun e hm => ?_⟩, .inl h.rz, fun k hk' => .inl (h.lz k hk'), h.lr, fun e hm k hk' => ?_, ?_, fun e hm => ?_, fun e hm => ?_, fun k hk' => ?_⟩
  · exact (hst r (Array.getElem?_eq_some_iff.1 h.c.cells).1 hrn).trans h.c.cells
  · rw [hptr, List.length_set]
    exact row_kept h.c.row (fun k hk' => hst k (row_lt h.c.row hk') (hln k hk'))
  · rcases hcase e hm with rfl | ⟨j, hj, hne, rfl⟩
    · exact he
    · exact (h.c.each _ (List.getElem_mem hj)).kept (X := fun k => ¬ OwnE es[i] k) (fun k hk' => hap j hj hne k hk') ((h.ps _ (List.getElem_mem hj)).mono fun k hk' => hk'.2.2.2 _ hmem) (fun k h1 h2 => hst k h2 h1) hsz
  · rcases hcase e hm with rfl | ⟨j, hj, hne, rfl⟩
    · rcases ho k hk' with h1 | h1
      · have := h.own _ hmem k h1; exact ⟨.inl this.1, this.2⟩
      · refine ⟨.inr h1, fun e => ?_, fun e => ?_⟩
        · have := h.zlt r h.rz; omega
        · have := h.zlt k (h.lz k e); omega
    · have := h.own _ (List.getElem_mem hj) k hk'; exact ⟨.inl this.1, this.2⟩
  · rw [List.pairwise_iff_getElem]
    intro a b ha hb' hab k h1 h2
    have ha' : a < es.length := by simpa using ha
    have hb2 : b < es.length := by simpa using hb'
    rw [List.getElem_set] at h1 h2
    by_cases hia : i = a
    · rw [if_pos hia] at h1
      rw [if_neg (by omega)] at h2
      rcases ho k h1 with h3 | h3
      · exact hap b hb2 (by omega) k h2 h3
      · have := hold b hb2 (by omega) k h2; omega
    · rw [if_neg hia] at h1
      by_cases hib : i = b
      · rw [if_pos hib] at h2
        rcases ho k h2 with h3 | h3
        · exact hap a ha' (by omega) k h1 h3
        · have := hold a ha' (by omega) k h1; omega
      · rw [if_neg hib] at h2
        exact List.pairwise_iff_getElem.1 h.ap a b ha' hb2 hab k h1 h2
  · rcases hcase e hm with rfl | ⟨j, hj, hne, rfl⟩
    · exact hs
    · exact h.self _ (List.getElem_mem hj)
  · have hfree : ∀ k, Z k → (∀ f ∈ es, ¬ OwnE f k) → ∀ f ∈ es.set i e', ¬ OwnE f k := fun k hz hf f hfm hfo => by
      rcases hcase f hfm with rfl | ⟨j, hj, hne, rfl⟩
      · rcases ho k hfo with h3 | h3
        · exact hf _ hmem h3
        · have := h.zlt k hz; omega
      · exact hf _ (List.getElem_mem hj) hfo
    rcases hcase e hm with rfl | ⟨j, hj, hne, rfl⟩
    · rcases hp with hp | ⟨e1, e2⟩
      · refine hp.mono fun k hk' => ⟨.inr ⟨hk'.1, hk'.2.1⟩, fun e => ?_, fun e => ?_, fun f hfm hfo => ?_⟩
        · have := h.zlt r h.rz; omega
        · have := h.zlt k (h.lz k e); omega
        · rcases hcase f hfm with rfl | ⟨j, hj, hne, rfl⟩
          · exact hk'.2.2 hfo
          · have := hold j hj hne k hfo; omega
      · rw [e1, e2]
        exact (h.ps _ hmem).mono fun k hk' => ⟨.inl hk'.1, hk'.2.1, hk'.2.2.1, hfree k hk'.1 hk'.2.2.2⟩
    · exact (h.ps _ (List.getElem_mem hj)).mono fun k hk' => ⟨.inl hk'.1, hk'.2.1, hk'.2.2.1, hfree k hk'.1 hk'.2.2.2⟩
  · rcases hk' with h1 | h1
    · exact Nat.lt_of_lt_of_le (h.zlt k h1) hsz
    · exact h1.2
end Go.Proofs.Ytdnpbhijjmlecaa

/- The document's entries beside the program's groups. -/
namespace Go.Proofs.Ytdnpbhijjmlecaa
open Go.RowKit Go.Maps
set_option linter.unusedSimpArgs false
set_option linter.unusedVariables false

theorem RelG.mono {N M : Nat} {d : Dg} {x : Gr} (h : RelG N d x) (hm : N ≤ M) : RelG M d x := ⟨h.gen, h.ever, h.mem, h.parts, h.offs, h.nums, h.keys, Nat.le_trans h.olen hm, Nat.le_trans h.nlen hm⟩
structure RelS (N : Nat) (es : List Ent) (ep : Int) (S : Gs) : Prop where
  ep : ep = S.epoch
  len : es.length = S.gs.length
  each : ∀ i (h : i < es.length) (h' : i < S.gs.length), es[i].n.data.toList = S.gs[i].1 ∧ RelG N es[i].d S.gs[i].2
theorem name_eq {a b : ByteArray} (h : a.data.toList = b.data.toList) : a = b := by
  obtain ⟨s⟩ := a
  obtain ⟨t⟩ := b
  have h2 : s.toList = t.toList := h
  rw [Array.toList_inj.1 h2]
theorem rel_find {N : Nat} {es : List Ent} {ep : Int} {S : Gs} (h : RelS N es ep S) (n : ByteArray) : (findX es n = none ∧ getG S.gs n.data.toList = none) ∨ ∃ i, ∃ hi : i < es.length, ∃ hi' : i < S.gs.length, findX es n = some es[i] ∧ getG S.gs n.data.toList = some S.gs[i].2 ∧ S.gs[i].1 = n.data.toList ∧ es[i].n = n := by
  cases hf : es.findIdx? (fun e => decide (e.n = n)) with
  | none =>
    rw [List.findIdx?_eq_none_iff] at hf
    refine .inl ⟨findX_none fun e he => by have := hf e he; simpa using this, ?_⟩
    unfold getG
    have : S.gs.find? (fun p => p.1 == n.data.toList) = none := by
      rw [List.find?_eq_none]
      intro p hp
      obtain ⟨i, hi, rfl⟩ := List.mem_iff_getElem.1 hp
      have hi' : i < es.length := by rw [h.len]; exact hi
      have h1 := (h.each i hi' hi).1
      have h2 := hf es[i] (List.getElem_mem hi')
      simp only [beq_iff_eq]
      rw [← h1]
      intro e
      simp [name_eq e] at h2
    rw [this]; rfl
  | some i =>
    obtain ⟨hi, h1, h2⟩ := List.findIdx?_eq_some_iff_getElem.1 hf
    have hi' : i < S.gs.length := by rw [← h.len]; exact hi
    have hn : es[i].n = n := by simpa using h1
    have hb : ∀ j (hj : j < i), es[j].n ≠ n := fun j hj => by have := h2 j hj; simpa using this
    refine .inr ⟨i, hi, hi', findX_at (fun e he => ?_) hi hn, ?_, by rw [← (h.each i hi hi').1, hn], hn⟩
    · obtain ⟨j, hj, rfl⟩ := List.mem_take_iff_getElem.1 he
      exact hb j (by omega)
    · unfold getG
      have : S.gs.find? (fun p => p.1 == n.data.toList) = some S.gs[i] := by
        rw [List.find?_eq_some_iff_append]
        refine ⟨by rw [← (h.each i hi hi').1, hn]; simp, S.gs.take i, S.gs.drop (i + 1), ?_, fun p hp => ?_⟩
        · have := List.take_append_drop i S.gs
          rw [List.drop_eq_getElem_cons hi'] at this
          exact this.symm
        · obtain ⟨j, hj, rfl⟩ := List.mem_take_iff_getElem.1 hp
          have hj2 : j < es.length := by omega
          have e1 := (h.each j hj2 (by omega)).1
          have : ¬ S.gs[j].1 = n.data.toList := by rw [← e1]; exact fun e => hb j (by omega) (name_eq e)
          simpa using this
      rw [this]; rfl
theorem rel_set {N M : Nat} {es : List Ent} {ep : Int} {S : Gs} (h : RelS N es ep S) (hm : N ≤ M) (hn : S.gs.Pairwise fun a b => a.1 ≠ b.1) (i : Nat) (hi : i < es.length) (hi' : i < S.gs.length) (e' : Ent) (he : e'.n = es[i].n) (y : Gr) (hr : RelG M e'.d y) : RelS M (es.set i e') ep { S with gs := setG S.gs S.gs[i].1 y } := by
  refine ⟨h.ep, by simp [setG, h.len], fun j hj hj' => ?_⟩
  have hj1 : j < es.length := by simpa using hj
  have hj2 : j < S.gs.length := by simpa [setG] using hj'
  have eg : (setG S.gs S.gs[i].1 y)[j]'hj' = if S.gs[j].1 == S.gs[i].1 then (S.gs[j].1, y) else S.gs[j] := by simp [setG]
  show (es.set i e')[j].n.data.toList = ((setG S.gs S.gs[i].1 y)[j]'hj').1 ∧ RelG M (es.set i e')[j].d ((setG S.gs S.gs[i].1 y)[j]'hj').2
  rw [eg, List.getElem_set]
  by_cases hij : i = j
  · subst hij
    rw [if_pos rfl, if_pos (by simp)]
    exact ⟨by rw [he]; exact (h.each i hi hi').1, hr⟩
  · have hne : ¬ S.gs[j].1 = S.gs[i].1 := by
      rcases Nat.lt_or_ge i j with hlt | hge
      · exact fun e => List.pairwise_iff_getElem.1 hn i j hi' hj2 hlt e.symm
      · exact fun e => List.pairwise_iff_getElem.1 hn j i hj2 hi' (by omega) e
    rw [if_neg hij, if_neg (by simpa using hne)]
    exact ⟨(h.each j hj1 hj2).1, (h.each j hj1 hj2).2.mono hm⟩
end Go.Proofs.Ytdnpbhijjmlecaa

/- The document's Apply: the record's box and the told box; kinds that are none; the epoch. -/
namespace Go.Proofs.Ytdnpbhijjmlecaa
open Go.RowKit Go.Maps
set_option maxRecDepth 100000
set_option linter.unusedSimpArgs false
set_option linter.unusedVariables false

/-- The record's box and the box of what is told (the document's). -/
structure TB8 (Z : Nat → Prop) (w W : World) (cs zs : Array Value) : Prop where
  x : W.heap[w.heap.size]? = some (.cells cs 32)
  z : W.heap[w.heap.size + 1]? = some (.cells zs 38)
  k : Keeps Z w W
  s : w.heap.size + 2 ≤ W.heap.size
theorem tb8_new (Z : Nat → Prop) (w : World) (cs zs : Array Value) : TB8 Z w ((w.alloc (.cells cs 32)).alloc (.cells zs 38)) cs zs := by
  refine ⟨?_, ?_, Keeps.of_below (((Below.refl _ _).alloc (Nat.le_refl _) _).alloc (by simp) _), by simp⟩
  · rw [Below.heap_alloc _ _ _ (by simp)]; exact heap_alloc_new _ _
  · have := heap_alloc_new (w.alloc (.cells cs 32)) (.cells zs 38)
    rw [show (w.alloc (.cells cs 32)).heap.size = w.heap.size + 1 by simp] at this
    exact this
theorem TB8.next {Z T : Nat → Prop} {w W W' : World} {cs zs : Array Value} (h : TB8 Z w W cs zs) (hk : Keeps T W W') (ht : ∀ k, T k → Z k ∨ w.heap.size ≤ k) (hx : ¬ T w.heap.size) (hz : ¬ T (w.heap.size + 1)) : TB8 Z w W' cs zs := by
  have := h.s
  exact ⟨(hk.block _ (by omega) hx).trans h.x, (hk.block _ (by omega) hz).trans h.z, h.k.trans hk ht, Nat.le_trans this hk.size⟩
theorem TB8.under {Z : Nat → Prop} {w W W' : World} {cs zs : Array Value} (h : TB8 Z w W cs zs) (hb : Below W.heap.size W W') : TB8 Z w W' cs zs := by
  have := h.s
  exact ⟨(hb.block _ (by omega)).trans h.x, (hb.block _ (by omega)).trans h.z, h.k.trans (Keeps.of_below (S := Z) hb) (fun _ k => .inl k), Nat.le_trans this hb.size⟩
theorem TB8.setz {Z : Nat → Prop} {w W : World} {cs zs : Array Value} (h : TB8 Z w W cs zs) (j : Nat) (u : Value) : TB8 Z w (W.setCell ⟨w.heap.size + 1, j, none⟩ u) cs (zs.setIfInBounds j u) :=
  ⟨(Below.heap_setCell _ _ _ _ (by simp)).trans h.x, set_box h.z, h.k.trans (Keeps.set (S := fun k => k = w.heap.size + 1) W rfl u) (fun k hk => .inr (by omega)), by have := h.s; simpa using this⟩
theorem TB8.five {Z : Nat → Prop} {w W : World} {cs zs : Array Value} (h : TB8 Z w W cs zs) (hz : zs.size = 5) (v0 v1 v2 v3 v4 : Value) : TB8 Z w (five W (w.heap.size + 1) v0 v1 v2 v3 v4) cs #[v0, v1, v2, v3, v4] := by
  obtain ⟨l⟩ := zs
  match l, hz, h with
  | [z0, z1, z2, z3, z4], _, h =>
    have h0 : TB8 Z w _ cs #[v0, z1, z2, z3, z4] := h.setz 0 v0
    have h1 : TB8 Z w _ cs #[v0, v1, z2, z3, z4] := h0.setz 1 v1
    have h2 : TB8 Z w _ cs #[v0, v1, v2, z3, z4] := h1.setz 2 v2
    have h3 : TB8 Z w _ cs #[v0, v1, v2, v3, z4] := h2.setz 3 v3
    have h4 : TB8 Z w _ cs #[v0, v1, v2, v3, v4] := h3.setz 4 v4
    exact h4
set_option maxHeartbeats 3200000 in
theorem rbad_any {w : World} {r : Nat} (m : Rc) (la : Option Addr) (lc : Nat) (h1 : ¬ m.kind = 1) (h5 : ¬ m.kind = 5) (h : m.kind < 2 ∨ 6 < m.kind) : Calls Try.prog 13 #[.pointer (some ⟨r, 0, none⟩), recV m (.slice la m.list.length lc)] w fun e w' => ToldP (fun b => w.heap.size ≤ b) w' (errT 1) e ∧ Below w.heap.size w w' := by
  have hT := tb8_new (fun _ => False) w (recA m (.slice la m.list.length lc)) zTd
  have HT := hid hT
  unfold recV recA zTd at *
  go_enter Try.func13, Try.ntmps13
  go_upto_region 1 with fail
  generalize (w.alloc (.cells #[.int .i64 m.kind, .int .i64 m.a, .int .i64 m.b, .int .i64 m.c, .int .i64 m.d, .string m.name, .string m.text, .slice la m.list.length lc] 32)).alloc (.cells #[.int .i64 0, .int .i64 0, .int .i64 0, .int .i64 0, .slice none 0 0] 38) = W at *
  have a0 := cell_blk HT.out.x 0 _ rfl
  have a1 := cell_blk HT.out.x 1 _ rfl
  have a2 := cell_blk HT.out.x 2 _ rfl
  have a3 := cell_blk HT.out.x 3 _ rfl
  have a4 := cell_blk HT.out.x 4 _ rfl
  have a5 := cell_blk HT.out.x 5 _ rfl
  have a6 := cell_blk HT.out.x 6 _ rfl
  have a7 := cell_blk HT.out.x 7 _ rfl
  have z0 := cell_blk HT.out.z 0 _ rfl
  have z1 := cell_blk HT.out.z 1 _ rfl
  have z2 := cell_blk HT.out.z 2 _ rfl
  have z3 := cell_blk HT.out.z 3 _ rfl
  have z4 := cell_blk HT.out.z 4 _ rfl
  have fz := frz_blk HT.out.z
  clear hT
  by_cases h2 : m.kind < 2
  · go_wp2_with fail
    have HT5 := hid ((HT.out).five rfl (.int .i64 1) (.int .i64 0) (.int .i64 0) (.int .i64 0) (.slice none 0 0))
    unfold five at HT5
    generalize ((((W.setCell ⟨w.heap.size + 1, 0, none⟩ (.int .i64 1)).setCell ⟨w.heap.size + 1, 1, none⟩ (.int .i64 0)).setCell ⟨w.heap.size + 1, 2, none⟩ (.int .i64 0)).setCell ⟨w.heap.size + 1, 3, none⟩ (.int .i64 0)).setCell ⟨w.heap.size + 1, 4, none⟩ (.slice none 0 0) = N5 at *
    have r0 := cell_blk HT5.out.z 0 _ rfl
    have r1 := cell_blk HT5.out.z 1 _ rfl
    have r2 := cell_blk HT5.out.z 2 _ rfl
    have r3 := cell_blk HT5.out.z 3 _ rfl
    have r4 := cell_blk HT5.out.z 4 _ rfl
    exact bodyPost_ret (v := .agg #[.int .i64 1, .int .i64 0, .int .i64 0, .int .i64 0, .slice none 0 0]) (by simp [results, Try.results13, go_sem, r0, r1, r2, r3, r4]) rfl (⟨told_nil, by first | exact HT5.out.k.base | exact HT5.out.k.base.drew⟩)
  · have h6 : 6 < m.kind := by omega
    go_wp2_with fail
    have HT5 := hid ((HT.out).five rfl (.int .i64 1) (.int .i64 0) (.int .i64 0) (.int .i64 0) (.slice none 0 0))
    unfold five at HT5
    generalize ((((W.setCell ⟨w.heap.size + 1, 0, none⟩ (.int .i64 1)).setCell ⟨w.heap.size + 1, 1, none⟩ (.int .i64 0)).setCell ⟨w.heap.size + 1, 2, none⟩ (.int .i64 0)).setCell ⟨w.heap.size + 1, 3, none⟩ (.int .i64 0)).setCell ⟨w.heap.size + 1, 4, none⟩ (.slice none 0 0) = N5 at *
    have r0 := cell_blk HT5.out.z 0 _ rfl
    have r1 := cell_blk HT5.out.z 1 _ rfl
    have r2 := cell_blk HT5.out.z 2 _ rfl
    have r3 := cell_blk HT5.out.z 3 _ rfl
    have r4 := cell_blk HT5.out.z 4 _ rfl
    exact bodyPost_ret (v := .agg #[.int .i64 1, .int .i64 0, .int .i64 0, .int .i64 0, .slice none 0 0]) (by simp [results, Try.results13, go_sem, r0, r1, r2, r3, r4]) rfl (⟨told_nil, by first | exact HT5.out.k.base | exact HT5.out.k.base.drew⟩)

set_option maxHeartbeats 3200000 in
theorem repoch_no {w : World} {r : Nat} {vl : Value} {es : List Ent} {ep : Int} (h : DC w r vl es ep) (m : Rc) (la : Option Addr) (lc : Nat) (h5 : m.kind = 5) (hlt : m.a < ep) : Calls Try.prog 13 #[.pointer (some ⟨r, 0, none⟩), recV m (.slice la m.list.length lc)] w fun e w' => ToldP (fun b => w.heap.size ≤ b) w' (errT 13) e ∧ Below w.heap.size w w' := by
  have HC := hid h
  have HK5 := hid h5
  clear h5
  have hT := tb8_new (fun _ => False) w (recA m (.slice la m.list.length lc)) zTd
  have HT := hid hT
  unfold recV recA zTd at *
  go_enter Try.func13, Try.ntmps13
  go_upto_region 1 with fail
  generalize (w.alloc (.cells #[.int .i64 m.kind, .int .i64 m.a, .int .i64 m.b, .int .i64 m.c, .int .i64 m.d, .string m.name, .string m.text, .slice la m.list.length lc] 32)).alloc (.cells #[.int .i64 0, .int .i64 0, .int .i64 0, .int .i64 0, .slice none 0 0] 38) = W at *
  have a0 := cell_blk HT.out.x 0 _ rfl
  have a1 := cell_blk HT.out.x 1 _ rfl
  have a2 := cell_blk HT.out.x 2 _ rfl
  have a3 := cell_blk HT.out.x 3 _ rfl
  have a4 := cell_blk HT.out.x 4 _ rfl
  have a5 := cell_blk HT.out.x 5 _ rfl
  have a6 := cell_blk HT.out.x 6 _ rfl
  have a7 := cell_blk HT.out.x 7 _ rfl
  have z0 := cell_blk HT.out.z 0 _ rfl
  have z1 := cell_blk HT.out.z 1 _ rfl
  have z2 := cell_blk HT.out.z 2 _ rfl
  have z3 := cell_blk HT.out.z 3 _ rfl
  have z4 := cell_blk HT.out.z 4 _ rfl
  have fz := frz_blk HT.out.z
  clear hT
  have h5 := HK5.out
  have e1 := (HC.out.under HT.out.k.base).c1
  clear h
  go_wp2_with fail
  go_region_held3 (fun V => V.cell? ⟨r, 1, none⟩ = some (.int .i64 ep) ∧ V.cell? ⟨w.heap.size, 1, none⟩ = some (.int .i64 m.a)) (go_keep) (fail)
  go_wp2_with fail
  have HT5 := hid ((HT.out).five rfl (.int .i64 13) (.int .i64 0) (.int .i64 0) (.int .i64 0) (.slice none 0 0))
  unfold five at HT5
  generalize ((((W.setCell ⟨w.heap.size + 1, 0, none⟩ (.int .i64 13)).setCell ⟨w.heap.size + 1, 1, none⟩ (.int .i64 0)).setCell ⟨w.heap.size + 1, 2, none⟩ (.int .i64 0)).setCell ⟨w.heap.size + 1, 3, none⟩ (.int .i64 0)).setCell ⟨w.heap.size + 1, 4, none⟩ (.slice none 0 0) = N5 at *
  have r0 := cell_blk HT5.out.z 0 _ rfl
  have r1 := cell_blk HT5.out.z 1 _ rfl
  have r2 := cell_blk HT5.out.z 2 _ rfl
  have r3 := cell_blk HT5.out.z 3 _ rfl
  have r4 := cell_blk HT5.out.z 4 _ rfl
  exact bodyPost_ret (v := .agg #[.int .i64 13, .int .i64 0, .int .i64 0, .int .i64 0, .slice none 0 0]) (by simp [results, Try.results13, go_sem, r0, r1, r2, r3, r4]) rfl (⟨told_nil, by first | exact HT5.out.k.base | exact HT5.out.k.base.drew | exact below_drewN HT5.out.k.base _⟩)

end Go.Proofs.Ytdnpbhijjmlecaa

