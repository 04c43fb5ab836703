/- What a member owns; who owns a partition; its offset. -/
import Derived.Test.YtdnpbhijjmlecaaG4
import Derived.Test.YtdnpbhijjmlecaaG6
namespace Go.Proofs.Ytdnpbhijjmlecaa
open Go.RowKit Go.Maps
set_option maxRecDepth 100000
set_option linter.unusedSimpArgs false
set_option linter.unusedVariables false

set_option maxHeartbeats 800000 in
theorem offset_any {w : World} {q : Nat} {vm vp vo : Value} {x : Gr} (h : GrR w q vm vp vo x) (n : Int) (hn : I64 n) : Calls Try.prog 36 #[.pointer (some ⟨q, 0, none⟩), .int .i64 n] w fun e w' => e = .returned (.int .i64 (offI x n)) ∧ w = w' := by
  have c4 := h.c4
  have hl := h.look w (Below.refl _ _) n hn
  have HF : Hid (offI x n = if (getO x.offs n).isSome = true then valO x.offs n else -1) := by
    show _ = _
    unfold offI valO
    cases getO x.offs n <;> rfl
  generalize offI x n = B at *
  generalize (getO x.offs n).isSome = b at *
  generalize valO x.offs n = z at *
  clear h
  cases b with
  | true =>
    go_enter Try.func36, Try.ntmps36
    go_wp2_with fail
    go_ret
    exact ⟨ret_int (by rw [HF.out]; rfl), rfl⟩
  | false =>
    go_enter Try.func36, Try.ntmps36
    go_wp2_with fail
    go_ret
    exact ⟨ret_int (by rw [HF.out]; rfl), rfl⟩
/-- The row that Assign made, cell by cell. -/
theorem AInv.cell {w wr : World} {l : List Int} {k : Nat} (h : AInv w wr l k k) (j : Nat) (hj : j < k) : ∃ v, wr.cell? ⟨w.heap.size, j, none⟩ = some v ∧ IL wr v (shareL l k j) ∧ In (fun b => w.heap.size + 1 ≤ b) v (shareL l k j) := by
  obtain ⟨ds, d1, d2, d3, d4⟩ := h
  obtain ⟨g1, g2⟩ := d3 j (by omega)
  exact ⟨ds[j], cell_blk d2 j _ (by rw [List.getElem?_toArray, List.getElem?_append_left (by omega), List.getElem?_eq_getElem]), g1, g2⟩
theorem shareL_mem {l : List Int} {k j : Nat} {y : Int} (h : y ∈ shareL l k j) : y ∈ l := List.mem_of_mem_drop (List.mem_of_mem_take h)
theorem own_skip (x : Gr) (part : Int) : ∀ (r : List Mb) (i : Nat), (∀ j, j < r.length → hasB (shareL x.parts x.mem.length (i + j)) part = false) → ownFrom x part i r = 0
  | [], _, _ => rfl
  | m :: r, i, h => by
    have h0 := h 0 (by simp)
    simp only [Nat.add_zero] at h0
    unfold ownFrom
    rw [h0]
    exact own_skip x part r (i + 1) (fun j hj => by have := h (j + 1) (by simp; omega); rwa [show i + 1 + j = i + (j + 1) by omega])
theorem own_hit (x : Gr) (part : Int) : ∀ (r : List Mb) (i j : Nat) (hj : j < r.length), (∀ t, t < j → hasB (shareL x.parts x.mem.length (i + t)) part = false) → hasB (shareL x.parts x.mem.length (i + j)) part = true → ownFrom x part i r = r[j].id
  | m :: r, i, 0, hj, _, h => by
    unfold ownFrom
    rw [Nat.add_zero] at h
    rw [h]
    rfl
  | m :: r, i, j + 1, hj, hb, h => by
    have h0 := hb 0 (by omega)
    simp only [Nat.add_zero] at h0
    unfold ownFrom
    rw [h0]
    have := own_hit x part r (i + 1) j (by simpa using hj) (fun t ht => by have := hb (t + 1) (by omega); rwa [show i + 1 + t = i + (t + 1) by omega]) (by rwa [show i + 1 + j = i + (j + 1) by omega])
    simpa using this
set_option maxHeartbeats 3200000 in
theorem owner_any {w : World} {q : Nat} {vm vp vo : Value} {x : Gr} (h : GrR w q vm vp vo x) (hf : x.mem.length ≤ 1000) (h64 : ∀ m ∈ x.mem, I64 m.id) (part : Int) (hp : I64 part) : Calls Try.prog 35 #[.pointer (some ⟨q, 0, none⟩), .int .i64 part] w fun e w' => e = .returned (.int .i64 (ownerI x part)) ∧ Below w.heap.size w w' := by
  have HID := hid (ids_any h hf h64)
  have HI := hid h
  have hq := h.lt
  clear h
  go_enter Try.func35, Try.ntmps35
  go_wp2_with fail
  refine HID.out.mono ?_
  rintro e w1 ⟨v1, rfl, h1, h2, hb1⟩
  obtain ⟨a1, cp1, rfl⟩ : ∃ a c, v1 = .slice a (idsL x).length c := by obtain ⟨⟨a, cap, e, _⟩, _⟩ := h1; exact ⟨_, _, e⟩
  have HI1 := hid h1
  have HR1 := hid (HI.out.under hb1)
  have HB1 := hid hb1
  have hlen : (idsL x).length = x.mem.length := by simp [idsL]
  have HAS := hid (assign_any HI1.out HR1.out.parts (by omega))
  have c3 := HR1.out.c3
  obtain ⟨pa, pc, rfl⟩ : ∃ a c, vp = .slice a x.parts.length c := by obtain ⟨⟨a, cap, e, _⟩, _⟩ := HR1.out.parts; exact ⟨_, _, e⟩
  rw [hlen] at HAS ⊢
  have HLEN := hid hlen
  clear h1 h2 hb1 hlen HID
  go_wp2_with fail
  refine HAS.out.mono ?_
  rintro e w2 ⟨rfl, hai⟩
  have HA := hid hai
  have HB2 := hid hai.below
  have hw12 := hai.below.size
  clear hai HAS c3
  generalize hK : x.mem.length = K at *
  have HK := hid hK
  clear hK
  go_wp2_with fail
  go_loopg [6, 7, 17] K (fun kx s6 s7 s17 wr => ∃ k : Nat, k ≤ K ∧ K - k ≤ kx ∧ s17 = .int .i64 (k : Int) ∧ Hid ((∀ t, t < k → hasB (shareL x.parts K t) part = false) ∧ wr = w2))
  case atStart => exact ⟨0, Nat.zero_le _, by omega, rfl, fun t ht => by omega, rfl⟩
  case round =>
    obtain ⟨k, hk, hkx, rfl, HR⟩ := hrel
    obtain ⟨hr1, rfl⟩ := HR.out
    have HRR := hid hr1
    clear hr1 HR
    by_cases hlt : k < K
    · obtain ⟨v, g1, g2, g3⟩ := HA.out.cell k hlt
      have HC := hid (contains_any g2 part hp)
      obtain ⟨va, vn, vc, rfl⟩ : ∃ a n c, v = .slice a n c := by obtain ⟨⟨a, cap, e, _⟩, _⟩ := g2; exact ⟨_, _, _, e⟩
      have hlt' : (k : Int) < (K : Int) := by omega
      have HNX : Hid (hasB (shareL x.parts K k) part = false → ∀ t, t < k + 1 → hasB (shareL x.parts K t) part = false) := fun hn t ht => by
        rcases Nat.lt_or_ge t k with h | h
        · exact HRR.out t h
        · rw [show t = k by omega]; exact hn
      have HHIT : Hid (hasB (shareL x.parts K k) part = true → ∃ m, x.mem[k]? = some m ∧ ownerI x part = m.id) := fun hy => by
        have hl : k < x.mem.length := by rw [HK.out]; exact hlt
        refine ⟨x.mem[k], by simp [hl], ?_⟩
        unfold ownerI
        refine own_hit x part x.mem 0 k hl (fun t ht => ?_) ?_
        · rw [Nat.zero_add, HK.out]; exact HRR.out t ht
        · rw [Nat.zero_add, HK.out]; exact hy
      clear g2 g3
      cases hB : hasB (shareL x.parts K k) part with
      | true =>
        rw [hB] at HC
        obtain ⟨m, hm, ho⟩ := HHIT.out hB
        have hcell : ∃ b off, a1 = some ⟨b, off, none⟩ ∧ wr.cell? ⟨b, off + k, none⟩ = some (.int .i64 m.id) := by
          have hl : k < x.mem.length := by rw [HK.out]; exact hlt
          obtain ⟨⟨a', c', e', _, _, _, hat⟩, _⟩ := HI1.out.under HB2.out
          simp only [Value.slice.injEq] at e'
          have hne : idsL x ≠ [] := fun e => by
            have h0 : (idsL x).length = 0 := by rw [e]; rfl
            rw [HLEN.out] at h0
            omega
          obtain ⟨b, off, e2, _, hc⟩ := hat hne
          have := hc k (by rw [HLEN.out]; exact hlt)
          refine ⟨b, off, e'.1.trans e2, ?_⟩
          rw [this]
          have e3 : x.mem[k] = m := by rw [List.getElem?_eq_getElem hl] at hm; exact Option.some.inj hm
          simp [idsL, e3]
        obtain ⟨b, off, rfl, hc1⟩ := hcell
        have HO := hid ho
        clear hB HHIT HNX hm ho
        go_wp2_with fail
        refine HC.out.mono ?_
        rintro e w3 ⟨rfl, rfl⟩
        go_wp2_with fail
        go_ret
        exact ⟨ret_int HO.out.symm, HB1.out.trans (HB2.out.mono HB1.out.size)⟩
      | false =>
        rw [hB] at HC
        have HN2 := hid (HNX.out hB)
        clear hB HHIT HNX
        go_wp2_with fail
        refine HC.out.mono ?_
        rintro e w3 ⟨rfl, rfl⟩
        go_wp2_with fail
        go_roundg (K - (k + 1))
        case measure => omega
        case rel => exact ⟨k + 1, by omega, Nat.le_refl _, by go_num, HN2.out, rfl⟩
    · have hkk : k = K := by omega
      have hlt' : ¬ (k : Int) < (K : Int) := by omega
      have HZ : Hid (ownerI x part = 0) := own_skip x part x.mem 0 (fun j hj => by rw [Nat.zero_add, HK.out]; rw [HK.out] at hj; exact HRR.out j (by omega))
      clear hkk
      go_wp2_with fail
      go_ret
      exact ⟨ret_int HZ.out.symm, HB1.out.trans (HB2.out.mono HB1.out.size)⟩
end Go.Proofs.Ytdnpbhijjmlecaa
