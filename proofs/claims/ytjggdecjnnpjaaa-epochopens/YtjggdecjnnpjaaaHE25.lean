/- EpochOpens. -/
import Derived.Test.YtjggdecjnnpjaaaHE24
import Derived.Test.YtjggdecjnnpjaaaH16
namespace Go.Proofs.Ytjggdecjnnpjaaa
open Go.RowKit Go.Maps Go.Sort
set_option maxRecDepth 100000
set_option linter.unusedSimpArgs false
set_option linter.unusedVariables false

theorem rep_new (b : List UInt8) (h : b.length ≤ 100000) : repE 100000 [] fname (strOf b) = 0 ∧ repL 100000 [] fname (strOf b) = [⟨fname.data.toList, b, b.length⟩] := by
  have hz := strOf_size b
  have hd := strOf_data b
  have ha : admE [] fname = 0 := by unfold admE; rw [if_pos fname_name]; simp
  have hf : (strOf b).size ≤ 100000 - totalA [] + (abytes [] fname.data.toList).length := by rw [hz]; simp [totalA]; omega
  refine ⟨?_, ?_⟩
  · unfold repE; rw [if_pos ha, if_pos hf]
  · unfold repL; rw [if_pos ⟨ha, hf⟩, hz, hd]; simp [aput, adel, ains]
theorem open_one (b : List UInt8) (n : Nat) : openL [⟨fname.data.toList, b, n⟩] fname = eload b := by
  unfold openL
  rw [if_pos (by unfold synE alook; simp)]
  have : abytes [⟨fname.data.toList, b, n⟩] fname.data.toList = b := by unfold abytes alook; simp
  rw [this]
/-- A disk with the one file. -/
def OneD (w0 w : World) (a : Nat) (b : List UInt8) : Prop := ∃ S, DiskA w S a 100000 [⟨fname.data.toList, b, b.length⟩] ∧ (∀ k, S k → w0.heap.size ≤ k) ∧ Below w0.heap.size w0 w
theorem replace_one {w0 w : World} (b : List UInt8) (h : b.length ≤ 100000) (hd : DiskA w (fun k => k = w0.heap.size) w0.heap.size 100000 []) (hb : Below w0.heap.size w0 w) :
    Calls Try.prog 10 #[.pointer (some ⟨w0.heap.size, 0, none⟩), .string fname, .string (strOf b)] w fun e w' => e = .returned (.int .i64 0) ∧ OneD w0 w' w0.heap.size b := by
  have := replaceA hd fname (strOf b) fname_size (by rw [strOf_size]; unfold maxLen; omega)
  rw [(rep_new b h).1, (rep_new b h).2] at this
  refine this.mono fun e w' ⟨e1, S', d1, d2, d3, d4⟩ => ⟨e1, S', d1, fun k hk => ?_, hb.trans (d4.below hb.size (fun k hk => by omega))⟩
  rcases d2 k hk with h' | h'
  · omega
  · have := hb.size; omega
theorem open_yes' {w0 w : World} {a : Nat} {b : List UInt8} (h : OneD w0 w a b) (hok : (eload b).2 = 0) :
    Calls Try.prog 11 #[.pointer (some ⟨a, 0, none⟩), .string fname] w fun e w' => ∃ q, e = .returned (.tuple #[.pointer (some ⟨q, 0, none⟩), .int .i64 0]) ∧ (∃ B, CD w' B q a fname (eload b).1 100000 [⟨fname.data.toList, b, b.length⟩]) ∧ Below w0.heap.size w0 w' := by
  obtain ⟨S, d1, d2, d3⟩ := h
  have := copen_yes d1 fname_size (by rw [open_one]; exact hok)
  rw [open_one] at this
  exact this.mono fun e w' ⟨e1, ⟨B, b1, _, _⟩, e3⟩ => ⟨_, e1, ⟨B, b1⟩, d3.trans (e3.mono d3.size)⟩
theorem open_no' {w0 w : World} {a : Nat} {b : List UInt8} (h : OneD w0 w a b) (hok : (eload b).2 ≠ 0) :
    Calls Try.prog 11 #[.pointer (some ⟨a, 0, none⟩), .string fname] w fun e w' => e = .returned (.tuple #[.pointer none, .int .i64 (eload b).2]) ∧ Below w0.heap.size w0 w' := by
  obtain ⟨S, d1, d2, d3⟩ := h
  have := copen_no d1 fname_size (by rw [open_one]; exact hok)
  rw [open_one] at this
  exact this.mono fun e w' ⟨e1, e3⟩ => ⟨e1, d3.trans (e3.mono d3.size)⟩

set_option maxHeartbeats 6400000 in
theorem opens_walk (s : ByteArray) (w : World) (hs : s.size ≤ maxLen) : Calls Try.prog 3 #[.string s] w fun e w' => e = .returned (.bool true) ∧ Below w.heap.size w w' := by
  unfold maxLen at hs
  have H6 := hid (shown_any w)
  by_cases hbig : 30000 < s.size
  · have hbig' : (30000 : Int) < (s.size : Int) := by omega
    go_enter Try.func3, Try.ntmps3
    go_wp2_with fail
    refine H6.out.mono ?_
    rintro e w1 ⟨rfl, hb1⟩
    go_wp2_with fail
    go_ret
    exact ⟨rfl, hb1⟩
  · have hbig' : ¬ (30000 : Int) < (s.size : Int) := by omega
    obtain ⟨b, rfl⟩ : ∃ b, s = strOf b := ⟨s.data.toList, (strOf_eq s).symm⟩
    rw [strOf_size] at hs hbig
    have hsz := strOf_size b
    have HC : Hid (∀ W, Calls Try.prog 8 #[.string (strOf b)] W fun e w' => e = .returned (.int .i64 (crcL b : Nat)) ∧ W = w') := fun W => by
      have := rcrc_any (strOf b) W (by rw [strOf_size]; unfold maxLen; omega)
      rw [strOf_data] at this
      exact this
    have HF : Hid (∀ W, Calls Try.prog 7 #[.int .i64 (crcL b : Nat)] W fun e w' => e = .returned (.string (strOf (fourL (crcL b)))) ∧ Below W.heap.size W w') := fun W => rfour_any _ W (crcL_lt _)
    have hcat := strOf_append (fourL (crcL b)) b
    have h4l : (fourL (crcL b)).length = 4 := rfl
    have hl2 : (fourL (crcL b) ++ b).length ≤ 30004 := by rw [List.length_append, h4l]; omega
    have hl1 : b.length ≤ 30004 := by omega
    have hz4 := strOf_size (fourL (crcL b))
    go_enter Try.func3, Try.ntmps3
    go_wp2_with fail
    refine H6.out.mono ?_
    rintro e w1 ⟨rfl, hb1⟩
    go_wp2_with fail
    refine (HC.out _).mono ?_
    rintro e w2 ⟨rfl, rfl⟩
    go_wp2_with fail
    refine (HF.out _).mono ?_
    rintro e w3 ⟨rfl, hb3⟩
    have hbW : Below w.heap.size w w3 := hb1.trans (hb3.mono hb1.size)
    have HB4 := hid (hbW.alloc hbW.size (.cells #[.string (strOf b), .string (strOf (fourL (crcL b) ++ b))] 9))
    have HL4 := hid (heap_alloc_new w3 (.cells #[.string (strOf b), .string (strOf (fourL (crcL b) ++ b))] 9))
    have hz4a : (w3.alloc (.cells #[.string (strOf b), .string (strOf (fourL (crcL b) ++ b))] 9)).heap.size = w3.heap.size + 1 := by simp
    clear hb1 hb3 hbW HC HF H6
    go_wp2_with fail
    generalize w3.alloc (.cells #[.string (strOf b), .string (strOf (fourL (crcL b) ++ b))] 9) = W4 at *
    generalize w3.heap.size = lb at *
    generalize fourL (crcL b) ++ b = b1 at *
    clear hcat
    go_loopg [5] 2 (fun kx s5 wr => ∃ k : Nat, k ≤ 2 ∧ 2 - k ≤ kx ∧ s5 = .int .i64 (k : Int) ∧ Hid (Below W4.heap.size W4 wr))
    case atStart => exact ⟨0, by omega, by omega, rfl, Below.refl _ _⟩
    case round =>
      obtain ⟨k, hk, hkx, rfl, HI⟩ := hrel
      by_cases hlt : k < 2
      · have hlt' : (k : Int) < 2 := by omega
        obtain ⟨c, hcl, hcc⟩ : ∃ c : List UInt8, c.length ≤ 30004 ∧ (#[Value.string (strOf b), .string (strOf b1)] : Array Value)[k]? = some (.string (strOf c)) := by
          have h2 : k = 0 ∨ k = 1 := by omega
          rcases h2 with rfl | rfl
          · exact ⟨b, hl1, rfl⟩
          · exact ⟨b1, hl2, rfl⟩
        have HLk : Hid (∀ W, Below W4.heap.size W4 W → W.cell? ⟨lb, k, none⟩ = some (.string (strOf c))) := fun W hW => cell_at ((hW.block lb (by omega)).trans HL4.out) hcc
        have u0 := HLk.out _ HI.out
        have HN := hid (newA 100000 wr (by omega) (by omega))
        have HIs := HI.out.size
        clear hcc
        go_wp2_with fail
        refine HN.out.mono ?_
        rintro e w5 ⟨rfl, hd5, hb5⟩
        have HR := hid (replace_one c (by omega) hd5 hb5)
        have u5 := HLk.out _ (HI.out.trans (hb5.mono HIs))
        clear hd5 hb5 HN u0
        generalize hdb : wr.heap.size = db at *
        go_wp2_with fail
        refine HR.out.mono ?_
        rintro e w6 ⟨rfl, ho6⟩
        have HO6 := hid ho6
        clear HR u5 ho6
        by_cases hok : (eload c).2 = 0
        · have HOp := hid (open_yes' HO6.out hok)
          go_wp2_with fail
          refine HOp.out.mono ?_
          rintro e w7 ⟨q, rfl, ⟨B7, hcd7⟩, hb7⟩
          have C7 := hid hcd7
          have hs7 : Below W4.heap.size W4 w7 := HI.out.trans (hb7.mono HI.out.size)
          have HB7 := hid hs7
          have u7 := HLk.out _ hs7
          have HDoc := hid (docread_any c w7 (by omega))
          clear hcd7 hb7 hs7 HOp HO6
          go_wp2_with fail
          refine HDoc.out.mono ?_
          rintro e w8 hp8
          obtain ⟨rv, rfl, ha8⟩ := hp8.1 hok
          have A8 := hid ha8
          have hb8 := hp8.2.2
          have C8 := hid (C7.out.under hb8)
          have HB8 := hid (HB7.out.trans (hb8.mono HB7.out.size))
          have hfew := (eload_ok hok).few
          have HAll := hid (call_all C8.out hfew)
          obtain ⟨ro, rc, rfl, _⟩ := A8.out.shape
          clear hp8 ha8 hb8 HDoc C7 HB7 u7 hok
          generalize (eload c).1 = L at *
          go_wp2_with fail
          refine HAll.out.mono ?_
          rintro e w9 ⟨lv, rfl, hr9, hb9⟩
          have HS := hid (same_any (AL.of hr9) (A8.out.under hb9) (by omega) (by omega))
          rw [decide_eq_true rfl] at HS
          have HB9 := hid (HB8.out.trans (hb9.mono HB8.out.size))
          clear hr9 hb9 HAll A8 C8 HB8
          go_wp2_with fail
          refine HS.out.mono ?_
          rintro e w10 ⟨rfl, hb10⟩
          have HB10 := hid (HB9.out.trans (hb10.mono HB9.out.size))
          clear hb10 HS HB9
          go_wp2_with fail
          go_roundg (2 - (k + 1))
          case measure => omega
          case rel => exact ⟨k + 1, by omega, Nat.le_refl _, by go_num, HB10⟩
        · have HOp := hid (open_no' HO6.out hok)
          go_wp2_with fail
          refine HOp.out.mono ?_
          rintro e w7 ⟨rfl, hb7⟩
          have hs7 : Below W4.heap.size W4 w7 := HI.out.trans (hb7.mono HI.out.size)
          have HB7 := hid hs7
          have u7 := HLk.out _ hs7
          have HDoc := hid (docread_any c w7 (by omega))
          clear hb7 hs7 HOp HO6
          go_wp2_with fail
          refine HDoc.out.mono ?_
          rintro e w8 hp8
          obtain rfl := hp8.2.1 hok
          have HB8 := hid (HB7.out.trans (hp8.2.2.mono HB7.out.size))
          clear hp8 HDoc HB7 u7
          have hne1 : ((eload c).2 != 0) = true := by simp [hok]
          have hne2 : ((eload c).2 == 0) = false := by simp [hok]
          clear hok
          generalize (eload c).2 = E at *
          go_wp2_with fail
          go_roundg (2 - (k + 1))
          case measure => omega
          case rel => exact ⟨k + 1, by omega, Nat.le_refl _, by go_num, HB8⟩
      · have hlt' : ¬ (k : Int) < 2 := by omega
        go_wp2_with fail
        go_ret
        exact ⟨rfl, HB4.out.trans (HI.out.mono HB4.out.size)⟩

end Go.Proofs.Ytjggdecjnnpjaaa

