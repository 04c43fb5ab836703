/- Index. -/
import Derived.Test.YtlgaianlkbaedaaH20
import Derived.Test.YtlgaianlkbaedaaH26
namespace Go.Proofs.Ytlgaianlkbaedaa
open Go.RowKit Go.Maps Go.Sort
set_option maxRecDepth 100000
set_option linter.unusedSimpArgs false
set_option linter.unusedVariables false

def ecells (m : Mk) : List Value := [.int .i64 (m.at_ : Int), .int .i64 (m.base : Int), .string ⟨#[]⟩]
def flatE : List Mk → List Value
  | [] => []
  | m :: r => ecells m ++ flatE r
theorem flatE_append : ∀ l m : List Mk, flatE (l ++ m) = flatE l ++ flatE m
  | [], m => rfl
  | x :: r, m => by simp [flatE, flatE_append r m]
theorem flatE_length : ∀ l : List Mk, (flatE l).length = l.length * 3
  | [] => rfl
  | m :: r => by simp [flatE, ecells, flatE_length r]; omega
theorem info53 : ∃ i, Try.prog.info? 53 = some i ∧ i.zero = some (.agg #[.int .i64 0, .int .i64 0, .string ⟨#[]⟩]) ∧ i.size = 3 ∧ i.bytes = 32 := ⟨_, rfl, rfl, rfl, rfl⟩
set_option maxHeartbeats 3200000 in
theorem sindex_any {w : World} {U q a base name m v} {ix : List Mk} (h : SegM w U q a base name m v ix) (hlen : ix.length ≤ 5000) :
    Calls Try.prog 23 #[.pointer (some ⟨q, 0, none⟩)] w fun e w' => ∃ rv, e = .returned rv ∧ w'.ownsRow w.heap.size 53 3 rv ix.length (flatE ix) ∧ Below w.heap.size w w' := by
  obtain ⟨i0, hi0, hz0, hz1, hz2⟩ := info53
  obtain ⟨oa, cap, rfl, hcap, hcm, hoa⟩ := h.shape
  obtain ⟨k0, k1, k2, k3, k4, k5, k6⟩ := h.c
  have HS := hid h
  clear h
  go_enter Try.func23, Try.ntmps23
  go_wp2_with fail
  go_loopg [3, 11] ix.length (fun kx s3 s11 wr => ∃ (k : Nat) (sv : Value), k ≤ ix.length ∧ ix.length - k ≤ kx ∧ s11 = .int .i64 (k : Int) ∧ sv = s3 ∧ Hid (wr.ownsRow w.heap.size 53 3 sv k (flatE (ix.take k)) ∧ Below w.heap.size w wr))
  case atStart => exact ⟨0, _, by omega, by omega, rfl, rfl, ⟨by simp [flatE], .inl ⟨rfl, rfl⟩⟩, Below.refl _ _⟩
  case round =>
    obtain ⟨k, sv, hk, hkx, rfl, rfl, HI⟩ := hrel
    by_cases hlt : k < ix.length
    · have hlt' : (k : Int) < (ix.length : Int) := by omega
      obtain ⟨g, rfl⟩ := hoa (by omega)
      have hx : ix[k]? = some ix[k] := List.getElem?_eq_getElem hlt
      obtain ⟨r0, r1, r2⟩ := (HS.out.under HI.out.2).at_ k ix[k] hx
      have HX := hid hx
      generalize ix[k] = x at *
      have HF : Hid (flatE (ix.take (k + 1)) = flatE (ix.take k) ++ ecells x) := by
        show _ = _
        rw [List.take_add_one, HX.out, flatE_append]
        simp [flatE]
      clear hx
      have hbw := HI.out.2.size
      have hz1' : (wr.alloc (.cells #[.int .i64 (x.base : Int), .int .i64 (x.at_ : Int), .int .i64 (x.nth : Int)] 61)).heap.size = wr.heap.size + 1 := by simp
      have HR : Hid (((wr.alloc (.cells #[.int .i64 (x.base : Int), .int .i64 (x.at_ : Int), .int .i64 (x.nth : Int)] 61)).alloc (.cells #[.int .i64 (x.at_ : Int), .int .i64 (x.base : Int), .string ⟨#[]⟩] 53)).ownsRow w.heap.size 53 3 sv k (flatE (ix.take k))) := by
        refine ownsRow_kept HI.out.1 (fun q hq => ?_)
        have := (World.ownsRow.lt HI.out.1 q hq).2
        rw [Below.heap_alloc _ _ _ (by omega), Below.heap_alloc _ _ _ this]
      have HNW : Hid (∀ j u, (ecells x)[j]? = some u → ((wr.alloc (.cells #[.int .i64 (x.base : Int), .int .i64 (x.at_ : Int), .int .i64 (x.nth : Int)] 61)).alloc (.cells #[.int .i64 (x.at_ : Int), .int .i64 (x.base : Int), .string ⟨#[]⟩] 53)).cell? ((⟨wr.heap.size + 1, 0, none⟩ : Addr).add j) = some u) := fun j u hu => by
        have hadd : (⟨wr.heap.size + 1, 0, none⟩ : Addr).add j = ⟨wr.heap.size + 1, j, none⟩ := by unfold Addr.add; split <;> simp_all
        rw [hadd]
        have hh := heap_alloc_new (wr.alloc (.cells #[.int .i64 (x.base : Int), .int .i64 (x.at_ : Int), .int .i64 (x.nth : Int)] 61)) (.cells #[.int .i64 (x.at_ : Int), .int .i64 (x.base : Int), .string ⟨#[]⟩] 53)
        rw [hz1'] at hh
        exact cell_at hh (by simpa [ecells] using hu)
      have HON : Hid (∀ u ∈ ecells x, u.oneCell' = true) := by intro u hu; simp [ecells] at hu; rcases hu with rfl | rfl | rfl <;> rfl
      have HGR : Hid (∀ w2, ((wr.alloc (.cells #[.int .i64 (x.base : Int), .int .i64 (x.at_ : Int), .int .i64 (x.nth : Int)] 61)).alloc (.cells #[.int .i64 (x.at_ : Int), .int .i64 (x.base : Int), .string ⟨#[]⟩] 53)).grownBy w2 sv.ownBlock → Below w.heap.size w w2) := fun w2 hg => by
        have hs2 : ((wr.alloc (.cells #[.int .i64 (x.base : Int), .int .i64 (x.at_ : Int), .int .i64 (x.nth : Int)] 61)).alloc (.cells #[.int .i64 (x.at_ : Int), .int .i64 (x.base : Int), .string ⟨#[]⟩] 53)).heap.size = wr.heap.size + 1 + 1 := by simp
        have hgs := hg.size
        have hb := HI.out.2
        refine ⟨hg.os.trans hb.os, hg.tape.trans hb.tape, hg.output.trans hb.output, by omega, fun q hq => ?_⟩
        rw [hg.block q (by omega) (fun e => by have := (World.ownsRow.lt HI.out.1 q e.symm).1; omega), Below.heap_alloc _ _ _ (by omega), Below.heap_alloc _ _ _ (by omega)]
        exact hb.block q hq
      generalize flatE (ix.take k) = F at *
      go_wp2_with (at_builtin; refine wpList_append_own_at _ rfl _ _ 50 rfl w.heap.size 53 i0 _ 3 32 Try.underlying50 hi0 hz0 hz1 hz2 rfl (by decide) _ k F rfl HR.out ⟨wr.heap.size + 1, 0, none⟩ 1 1 (ecells x) rfl rfl HNW.out HON.out (by unfold maxLen; omega) (by omega) (by simp; omega) ?_; intro v' w2 hown2 hg2 _ hat)
      go_roundg (ix.length - (k + 1))
      case measure => omega
      case rel => exact ⟨k + 1, v', by omega, Nat.le_refl _, by go_num, rfl, by rw [HF.out]; exact hown2, HGR.out _ hg2⟩
    · have hlt' : ¬ (k : Int) < (ix.length : Int) := by omega
      have e : k = ix.length := by omega
      subst e
      rw [List.take_length] at HI
      have hsh : ∃ o n c, sv = .slice o n c := by
        rcases HI.out.1.2 with ⟨e, _⟩ | ⟨g, cap', cur, e, _⟩
        · exact ⟨_, _, _, e⟩
        · exact ⟨_, _, _, e⟩
      obtain ⟨o, n, c, rfl⟩ := hsh
      go_wp2_with fail
      go_ret
      exact ⟨_, rfl, HI.out⟩
end Go.Proofs.Ytlgaianlkbaedaa

/- What a file of batches is, and what load and seek make of it. -/
namespace Go.Proofs.Ytlgaianlkbaedaa
open Go.RowKit Go.Maps Go.Sort
set_option linter.unusedSimpArgs false
set_option linter.unusedVariables false

theorem batchL_parts {b : Bat} (h : rightL b = 0) : (batchL b).1 = fourL (bodyL b).length ++ (fourL (crcL (bodyL b)) ++ bodyL b) := by
  unfold batchL; rw [if_pos h]; simp
theorem batchL_len {b : Bat} (h : rightL b = 0) : (batchL b).1.length = 8 + (bodyL b).length := by
  rw [batchL_parts h]; simp [fourL]; omega

theorem fourN_take (l m : List UInt8) (h : 4 ≤ l.length) : fourN (l ++ m) = fourN l := by
  match l, h with
  | a :: b :: c :: d :: r, _ => rfl

/-- Cut anywhere: too short. -/
theorem read_cut {b : Bat} (h : rightL b = 0) (k : Nat) (hk : k < (batchL b).1.length) : readBatchL ((batchL b).1.take k) = (zeroBat, 0, 5) := by
  have hl := batchL_len h
  obtain ⟨_, _, _, _, _, _, h7⟩ := rightL_ok h
  have hlen : ((batchL b).1.take k).length = k := by simp; omega
  unfold readBatchL
  by_cases h8 : k < 8
  · rw [if_pos (by omega)]
  · rw [if_neg (by omega)]
    have hf : fourN ((batchL b).1.take k) = (bodyL b).length := by
      have e : (batchL b).1 = (batchL b).1.take k ++ (batchL b).1.drop k := (List.take_append_drop _ _).symm
      have e2 := congrArg fourN e
      rw [fourN_take _ _ (by omega)] at e2
      rw [← e2, batchL_parts h]
      exact fourN_fourL _ _ (by omega)
    rw [hf, if_neg (by omega), if_pos (by omega)]


theorem batchL_pos {b : Bat} (h : rightL b = 0) : 0 < (batchL b).1.length := by rw [batchL_len h]; omega
theorem batchL_nil : readBatchL [] = (zeroBat, 0, 5) := rfl
/-- The bytes of batches, one after another. -/
def fileL : List Bat → List UInt8
  | [] => []
  | b :: r => (batchL b).1 ++ fileL r
/-- The mark behind them. -/
def endM (m : Mk) : List Bat → Mk
  | [] => m
  | b :: r => endM (m.next b.recs.length (batchL b).1.length) r
/-- The index of them. -/
def idxM (m : Mk) (ix : List Mk) : List Bat → List Mk
  | [] => ix
  | b :: r => idxM (m.next b.recs.length (batchL b).1.length) (addL ix m) r
/-- They may stand one after another. -/
def Fits (m : Mk) : List Bat → Prop
  | [] => True
  | b :: r => rightL b = 0 ∧ b.base = (m.base : Int) ∧ m.base + b.recs.length ≤ 1000000000 ∧ m.nth + 1 ≤ 4096 ∧ Fits (m.next b.recs.length (batchL b).1.length) r
theorem stepL_batch {m : Mk} {b : Bat} (hR : rightL b = 0) (hb : b.base = (m.base : Int)) (h1 : m.base + b.recs.length ≤ 1000000000) (h2 : m.nth + 1 ≤ 4096) (more : List UInt8) : stepL m ((batchL b).1 ++ more) = some (b, m.next b.recs.length (batchL b).1.length, more) := by
  have hr := readBatchL_batchL b more (by unfold I64; omega) hR
  unfold stepL
  rw [hr, if_neg (by simp [hb]), if_neg (by simp; omega)]
  simp
theorem stepL_none5 {m : Mk} {l : List UInt8} (h : (readBatchL l).2.2 ≠ 0) : stepL m l = none := by
  unfold stepL
  rw [if_pos (.inl h)]
theorem loadL_file : ∀ (bs : List Bat) (m : Mk) (ix : List Mk) (rest : List UInt8) (f : Nat), Fits m bs → stepL (endM m bs) rest = none → bs.length < f → loadL f m ix (fileL bs ++ rest) = (endM m bs, idxM m ix bs, rest)
  | [], m, ix, rest, f, _, hs, hf => by
    cases f with
    | zero => simp at hf
    | succ f =>
      show loadL (f + 1) m ix rest = (m, ix, rest)
      have hs' : stepL m rest = none := hs
      unfold loadL
      rw [hs']
  | b :: r, m, ix, rest, f, h, hs, hf => by
    obtain ⟨h1, h2, h3, h4, h5⟩ := h
    cases f with
    | zero => simp at hf
    | succ f =>
      have e : fileL (b :: r) ++ rest = (batchL b).1 ++ (fileL r ++ rest) := by simp [fileL]
      rw [e]
      unfold loadL
      rw [stepL_batch h1 h2 h3 h4]
      exact loadL_file r _ _ rest f h5 hs (by simp at hf; omega)
theorem fileL_length_ge : ∀ (bs : List Bat) (m : Mk), Fits m bs → bs.length ≤ (fileL bs).length
  | [], m, _ => Nat.le_refl _
  | b :: r, m, h => by
    have ih := fileL_length_ge r _ h.2.2.2.2
    have := batchL_pos h.1
    simp [fileL]; omega
theorem endM_at : ∀ (bs : List Bat) (m : Mk), (endM m bs).at_ = m.at_ + (fileL bs).length
  | [], m => by simp [endM, fileL]
  | b :: r, m => by
    have ih := endM_at r (m.next b.recs.length (batchL b).1.length)
    simp only [endM, fileL, List.length_append]
    rw [ih]
    simp [Mk.next]; omega
theorem endM_nth : ∀ (bs : List Bat) (m : Mk), (endM m bs).nth = m.nth + bs.length
  | [], m => by simp [endM]
  | b :: r, m => by
    have ih := endM_nth r (m.next b.recs.length (batchL b).1.length)
    simp only [endM, List.length_cons]
    rw [ih]
    simp [Mk.next]; omega
theorem endM_base : ∀ (bs : List Bat) (m : Mk), m.base ≤ (endM m bs).base
  | [], m => Nat.le_refl _
  | b :: r, m => by
    have ih := endM_base r (m.next b.recs.length (batchL b).1.length)
    simp only [endM]
    simp [Mk.next] at ih ⊢; omega
theorem endM_append : ∀ (bs cs : List Bat) (m : Mk), endM m (bs ++ cs) = endM (endM m bs) cs
  | [], cs, m => rfl
  | b :: r, cs, m => by simp only [List.cons_append, endM]; exact endM_append r cs _
theorem fileL_append : ∀ (bs cs : List Bat), fileL (bs ++ cs) = fileL bs ++ fileL cs
  | [], cs => rfl
  | b :: r, cs => by simp only [List.cons_append, fileL, List.append_assoc]; rw [fileL_append r cs]
theorem idxM_append : ∀ (bs cs : List Bat) (m : Mk) (ix : List Mk), idxM m ix (bs ++ cs) = idxM (endM m bs) (idxM m ix bs) cs
  | [], cs, m, ix => rfl
  | b :: r, cs, m, ix => by simp only [List.cons_append, idxM, endM]; exact idxM_append r cs _ _
theorem fits_append : ∀ (bs cs : List Bat) (m : Mk), Fits m (bs ++ cs) ↔ Fits m bs ∧ Fits (endM m bs) cs
  | [], cs, m => by simp [Fits, endM]
  | b :: r, cs, m => by
    simp only [List.cons_append, Fits, endM]
    rw [fits_append r cs]
    constructor
    · rintro ⟨h1, h2, h3, h4, h5, h6⟩; exact ⟨⟨h1, h2, h3, h4, h5⟩, h6⟩
    · rintro ⟨⟨h1, h2, h3, h4, h5⟩, h6⟩; exact ⟨h1, h2, h3, h4, h5, h6⟩
/-- The beginning of a file: whole batches, and a torn rest. -/
theorem file_take : ∀ (bs : List Bat) (m : Mk) (k : Nat), Fits m bs → k ≤ (fileL bs).length → ∃ n rest, n ≤ bs.length ∧ (fileL bs).take k = fileL (bs.take n) ++ rest ∧ (fileL (bs.take n)).length ≤ k ∧ (n = bs.length ∧ rest = [] ∨ k < (fileL (bs.take (n + 1))).length) ∧ ∀ m', stepL m' rest = none
  | [], m, k, _, hk => ⟨0, [], Nat.le_refl _, by simp [fileL], by simp [fileL], .inl ⟨rfl, rfl⟩, fun m' => stepL_none5 (by rw [batchL_nil]; decide)⟩
  | b :: r, m, k, h, hk => by
    by_cases hlt : k < (batchL b).1.length
    · refine ⟨0, (batchL b).1.take k, Nat.zero_le _, ?_, by simp [fileL], .inr (by simp [fileL]; omega), fun m' => stepL_none5 (by rw [read_cut h.1 k hlt]; decide)⟩
      simp only [fileL, List.take_zero, List.nil_append]
      rw [List.take_append_of_le_length (by omega)]
    · have hk' : k - (batchL b).1.length ≤ (fileL r).length := by simp [fileL] at hk; omega
      obtain ⟨n, rest, h1, h2, h3, h4, h5⟩ := file_take r _ (k - (batchL b).1.length) h.2.2.2.2 hk'
      refine ⟨n + 1, rest, by simp; omega, ?_, ?_, ?_, h5⟩
      · simp only [fileL, List.take_succ_cons, List.append_assoc]
        rw [List.take_append, List.take_of_length_le (by omega), h2]
      · simp only [fileL, List.take_succ_cons, List.length_append]; omega
      · rcases h4 with h4 | h4
        · exact .inl ⟨by simp; omega, h4.2⟩
        · right
          simp only [fileL, List.take_succ_cons, List.length_append]; omega
end Go.Proofs.Ytlgaianlkbaedaa

