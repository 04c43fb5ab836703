/- DiskPlays: the walk. -/
import Derived.Test.YtpdghpmfacaglaaPe
import Derived.Test.YtpdghpmfacaglaaSc2
import Derived.Test.YtpdghpmfacaglaaShown
namespace Go.Proofs.Ytpdghpmfacaglaa
open Go.RowKit Go.Maps Go.Sort
set_option maxRecDepth 100000
set_option linter.unusedSimpArgs false
set_option linter.unusedVariables false

theorem does_any {F : Nat → Prop} {W w : World} {a r size : Nat} {l : List AF} (h : Two F W w a r size l l) (o : OpV) (ho : o.ok) (hk : KeepAt W o.keep) (hF : ∀ k, k < W.heap.size → F k) :
    Calls Try.prog 12 #[.pointer (some ⟨a, 0, none⟩), .pointer (some ⟨r, 0, none⟩), o.val] w fun e w' => Done F W a r size e w' := by
  obtain ⟨kind, name, b, n, keep⟩ := o
  obtain ⟨oa, ks, kc, hke, hks, hkl, hkb⟩ := hk
  simp only at hke
  subst hke
  obtain ⟨⟨hk1, hk2⟩, hn, hb, _⟩ := ho
  simp only at hk1 hk2 hn hb
  have hr := pickI_range kind 10 (by decide)
  have HPk : ∀ q : Int, pickI kind 10 = q → Hid (∀ wx, Calls Try.prog 17 #[.int .i64 kind, .int .i64 10] wx fun e w' => e = .returned (.int .i64 q) ∧ w' = wx) := fun q hq wx => by
    have := pick_any kind 10 wx hk1 hk2 (by decide) (by decide)
    rw [hq] at this
    exact this
  show Calls Try.prog 12 #[.pointer (some ⟨a, 0, none⟩), .pointer (some ⟨r, 0, none⟩), .agg #[.int .i64 kind, .string name, .string b, .int .i64 n, .slice oa ks.length kc]] w fun e w' => Done F W a r size e w'
  have hc : pickI kind 10 = 0 ∨ pickI kind 10 = 1 ∨ pickI kind 10 = 2 ∨ pickI kind 10 = 3 ∨ pickI kind 10 = 4 ∨ pickI kind 10 = 5 ∨ pickI kind 10 = 6 ∨ pickI kind 10 = 7 ∨ pickI kind 10 = 8 ∨ pickI kind 10 = 9 := by omega
  rcases hc with hc | hc | hc | hc | hc | hc | hc | hc | hc | hc
  · exact does0 h kind name b n oa ks kc hn hb (HPk _ hc)
  · exact does1 h kind name b n oa ks kc hn hb (HPk _ hc)
  · exact does2 h kind name b n oa ks kc hn hb (HPk _ hc)
  · exact does3 h kind name b n oa ks kc hn hb (HPk _ hc)
  · exact does4 h kind name b n oa ks kc hn hb (HPk _ hc)
  · exact does5 h kind name b n oa ks kc hn hb (HPk _ hc)
  · exact does6 h kind name b n oa ks kc hn hb (HPk _ hc)
  · exact does7 h kind name b n oa ks kc hn hb (HPk _ hc)
  · by_cases hp : n.tmod 2 = 0
    · exact does8a h kind name b n oa ks kc hn hb hp (HPk _ hc)
    · exact does8b h kind name b n oa ks kc hn hb hp (HPk _ hc)
  · exact does9 h kind name b n oa ks kc hn hb hks hkl (fun h0 bb off e => hF bb (hkb h0 bb off e)) (HPk _ hc)

set_option maxHeartbeats 800000 in
theorem new_no (n : Int) (w : World) (h : ¬ (1 ≤ n ∧ n ≤ 16777216)) (hi : -9223372036854775808 ≤ n ∧ n ≤ 9223372036854775807) :
    Calls Try.prog 10 #[.int .i64 n] w fun e w' => e = .returned (.tuple #[.pointer none, .int .i64 1]) ∧ w' = w := by
  by_cases h1 : n < 1
  · go_enter Try.func10, Try.ntmps10
    go_wp2
    go_ret2
    exact ⟨rfl, rfl⟩
  · have h2 : 16777216 < n := by omega
    go_enter Try.func10, Try.ntmps10
    go_wp2
    go_ret2
    exact ⟨rfl, rfl⟩
theorem two_new {w w2 w3 : World} {a r m : Nat} (ha : w.heap.size ≤ a) (h1 : DiskA w2 (fun k => k = a) a m []) (hb : Below w.heap.size w w2) (hr : r = w2.heap.size) (h2 : RefM w3 (fun k => k = r) r m (.slice none 0 0) []) (hb3 : Below w2.heap.size w2 w3) : Two (fun k => k < w.heap.size) w w3 a r m [] [] := by
  have hal := h1.below a rfl
  have hb' := hb.trans (hb3.mono hb.size)
  refine ⟨_, _, _, h1.under hb3, h2, fun k hk hk2 => by omega, fun k hk hk2 => by omega, fun k hk hk2 => by have := hb.size; omega, hb'.os, hb'.tape, hb'.output, hb'.size, fun k hk => hk, fun k hk => hb'.block k hk⟩
theorem Two.below {w w1 : World} {a r m : Nat} {lp lr : List AF} (h : Two (fun k => k < w.heap.size) w w1 a r m lp lr) : Below w.heap.size w w1 := by
  have hf := h.frm
  exact ⟨hf.os, hf.tape, hf.output, hf.size, fun k hk => hf.block k hk⟩

set_option maxHeartbeats 3200000 in
theorem plays_no (n : Int) (so : Option Addr) (len cap0 : Nat) (w : World) (h : ¬ (1 ≤ n ∧ n ≤ 16777216)) (hi : -9223372036854775808 ≤ n ∧ n ≤ 9223372036854775807) :
    Calls Try.prog 3 #[.int .i64 n, .slice so len cap0] w fun e w' => e = .returned (.bool true) ∧ Below w.heap.size w w' := by
  have HSh := hid (shown_any w)
  have HN := hid (fun w1 => new_no n w1 h hi)
  have HR := hid (fun w1 => rnew_no n w1 h hi)
  clear h hi
  go_enter Try.func3, Try.ntmps3
  go_wp2_with fail
  refine HSh.out.mono ?_
  rintro e w1 ⟨rfl, hb1⟩
  have HB := hid hb1
  clear hb1
  go_wp2_with fail
  refine (HN.out _).mono ?_
  rintro e w2 ⟨rfl, h⟩
  have h' := h.symm
  subst h'
  clear h
  go_wp2_with fail
  refine (HR.out _).mono ?_
  rintro e w3 ⟨rfl, h⟩
  have h' := h.symm
  subst h'
  clear h
  go_wp2_with fail
  go_ret
  exact ⟨rfl, HB.out⟩

set_option maxHeartbeats 6400000 in
theorem plays_yes (m : Nat) (h1 : 1 ≤ m) (h2 : m ≤ 16777216) (so : Option Addr) (cap0 : Nat) (ops : List OpV) (w : World) (hops : OpsAt w so ops) (hlen : ops.length ≤ maxLen) (hkeep : ∀ i (hi : i < ops.length), KeepAt w ops[i].keep) :
    Calls Try.prog 3 #[.int .i64 (m : Int), .slice so ops.length cap0] w fun e w' => e = .returned (.bool true) ∧ Below w.heap.size w w' := by
  have HSh := hid (shown_any w)
  have HN := hid (fun w1 => newA m w1 h1 h2)
  have HR := hid (fun w1 => rnew_yes m w1 h1 h2)
  have hlen' : ops.length ≤ 9223372036854775807 := by unfold maxLen at hlen; exact hlen
  have HOps : Hid (∀ i (h : i < ops.length), ops[i].ok ∧ KeepAt w ops[i].keep ∧ ∃ b off, so = some ⟨b, off, none⟩ ∧ ∀ W, Below w.heap.size w W → OpCells W b (off + i * 5) ops[i]) := fun i hi => by
    rcases hops with h | ⟨b, off, e, hb, hc⟩
    · rw [h] at hi; simp at hi
    · refine ⟨(hc i hi).1, hkeep i hi, b, off, e, fun W hW => ?_⟩
      obtain ⟨_, q0, q1, q2, q3, q4⟩ := hc i hi
      exact ⟨(hW.cell hb).trans q0, (hW.cell hb).trans q1, (hW.cell hb).trans q2, (hW.cell hb).trans q3, (hW.cell hb).trans q4⟩
  clear hops hlen hkeep h1 h2
  go_enter Try.func3, Try.ntmps3
  go_wp2_with fail
  refine HSh.out.mono ?_
  rintro e w1 ⟨rfl, hb1⟩
  have HB := hid hb1
  clear hb1
  go_wp2_with fail
  refine (HN.out _).mono ?_
  rintro e w2 ⟨rfl, hd2, hb2⟩
  have HD2 := hid hd2
  have HB2 := hid (HB.out.trans (hb2.mono HB.out.size))
  clear hd2 hb2
  go_wp2_with fail
  refine (HR.out _).mono ?_
  rintro e w3 ⟨rfl, hr3, hb3⟩
  have HT := hid (two_new HB.out.size HD2.out HB2.out rfl hr3 hb3)
  clear hr3 hb3 HD2 HB2 HSh HN HR HB
  generalize w1.heap.size = a at *
  generalize w2.heap.size = r at *
  go_wp2_with fail
  go_loopg [9] ops.length (fun kx s9 wr => ∃ (i : Nat) (l : List AF), i ≤ ops.length ∧ ops.length - i ≤ kx ∧ s9 = .int .i64 (i : Int) ∧ Hid (Two (fun k => k < w.heap.size) w wr a r m l l))
  case atStart => exact ⟨0, [], Nat.zero_le _, by omega, rfl, HT⟩
  case round =>
    clear HT
    obtain ⟨i, l, hi, hkx, rfl, HI⟩ := hrel
    by_cases hgo : i < ops.length ∧ i < 400
    · have hltz : (i : Int) < (ops.length : Int) := by omega
      have hlt4 : (i : Int) < 400 := by omega
      obtain ⟨hok, hkp, b, off, rfl, hc⟩ := HOps.out i hgo.1
      have HC := hid (does_any HI.out ops[i] hok hkp (fun k hk => hk))
      obtain ⟨p0, p1, p2, p3, p4⟩ := hc wr HI.out.below
      obtain ⟨oa, kl, kc, hke⟩ := hok.2.2.2
      generalize ops[i] = o at *
      obtain ⟨kind, name, bb, nn, keep⟩ := o
      simp only at hke p0 p1 p2 p3 p4
      subst hke
      have HC2 : Hid (Calls Try.prog 12 #[.pointer (some ⟨a, 0, none⟩), .pointer (some ⟨r, 0, none⟩), .agg #[.int .i64 kind, .string name, .string bb, .int .i64 nn, .slice oa kl kc]] wr fun e w' => Done (fun k => k < w.heap.size) w a r m e w') := HC.out
      clear hc hkp hok HC HI
      go_wp2_with fail
      refine HC2.out.mono ?_
      rintro e w4 ⟨rfl, l', h4⟩
      have H4 := hid h4.alike
      clear h4 p0 p1 p2 p3 p4
      go_wp2_with fail
      refine H4.out.mono ?_
      rintro e w5 ⟨rfl, h5⟩
      have H5 := hid h5
      clear h5
      go_wp2_with fail
      go_roundg (ops.length - (i + 1))
      case measure => omega
      case rel => exact ⟨i + 1, l', by omega, Nat.le_refl _, by go_num, H5⟩
    · obtain ⟨S, T, v, hd, hrr, _⟩ := HI.out
      have HCl := hid (cloneA hd)
      clear hd hrr
      by_cases hlt : i < ops.length
      · have hjz : (i : Int) < (ops.length : Int) := by omega
        have hj3 : ¬ (i : Int) < 400 := by omega
        clear hgo
        go_wp2_with fail
        refine HCl.out.mono ?_
        rintro e w4 ⟨rfl, S4, hd4, hs4, hb4⟩
        have HD4 := hid hd4
        have HS4 := hid hs4
        have HB4 := hid hb4
        clear hd4 hs4 hb4 HCl
        go_wp2_with fail
        refine (appendA HD4.out ⟨#[111, 116, 104, 101, 114]⟩ ⟨#[120]⟩ (by decide) (by decide)).mono ?_
        rintro e w5 ⟨rfl, S5, hd5, s51, s52, hk5⟩
        have HD5 := hid hd5
        have HS5 : Hid (∀ k, S5 k → wr.heap.size ≤ k) := fun k hk => by
          rcases s51 k hk with h | h
          · exact HS4.out k h
          · have := HB4.out.size; omega
        have HB5 := hid (HB4.out.trans (hk5.below HB4.out.size HS4.out))
        clear hd5 s51 s52 hk5
        go_wp2_with fail
        refine (crashA HD5.out none [] 0 (.inl rfl) (Nat.zero_le _) (fun h => absurd rfl h)).mono ?_
        rintro e w6 ⟨rfl, S6, hd6, s61, s62, hk6⟩
        have HB6 := hid (HB5.out.trans (hk6.below HB5.out.size HS5.out))
        clear hd6 s61 s62 hk6
        have H6 := hid ((HI.out.under HB6.out).alike)
        go_wp2_with fail
        refine H6.out.mono ?_
        rintro e w7 ⟨rfl, h7⟩
        have HF := hid h7.below
        clear h7
        go_wp2_with fail
        go_ret
        exact ⟨rfl, HF.out⟩
      · have hjz : ¬ ((i : Int) < (ops.length : Int)) := by omega
        clear hgo
        go_wp2_with fail
        refine HCl.out.mono ?_
        rintro e w4 ⟨rfl, S4, hd4, hs4, hb4⟩
        have HD4 := hid hd4
        have HS4 := hid hs4
        have HB4 := hid hb4
        clear hd4 hs4 hb4 HCl
        go_wp2_with fail
        refine (appendA HD4.out ⟨#[111, 116, 104, 101, 114]⟩ ⟨#[120]⟩ (by decide) (by decide)).mono ?_
        rintro e w5 ⟨rfl, S5, hd5, s51, s52, hk5⟩
        have HD5 := hid hd5
        have HS5 : Hid (∀ k, S5 k → wr.heap.size ≤ k) := fun k hk => by
          rcases s51 k hk with h | h
          · exact HS4.out k h
          · have := HB4.out.size; omega
        have HB5 := hid (HB4.out.trans (hk5.below HB4.out.size HS4.out))
        clear hd5 s51 s52 hk5
        go_wp2_with fail
        refine (crashA HD5.out none [] 0 (.inl rfl) (Nat.zero_le _) (fun h => absurd rfl h)).mono ?_
        rintro e w6 ⟨rfl, S6, hd6, s61, s62, hk6⟩
        have HB6 := hid (HB5.out.trans (hk6.below HB5.out.size HS5.out))
        clear hd6 s61 s62 hk6
        have H6 := hid ((HI.out.under HB6.out).alike)
        go_wp2_with fail
        refine H6.out.mono ?_
        rintro e w7 ⟨rfl, h7⟩
        have HF := hid h7.below
        clear h7
        go_wp2_with fail
        go_ret
        exact ⟨rfl, HF.out⟩

theorem plays_walk (n : Int) (hi : -9223372036854775808 ≤ n ∧ n ≤ 9223372036854775807) (so : Option Addr) (cap0 : Nat) (ops : List OpV) (w : World) (hops : OpsAt w so ops) (hlen : ops.length ≤ maxLen) (hkeep : ∀ i (hi : i < ops.length), KeepAt w ops[i].keep) :
    Calls Try.prog 3 #[.int .i64 n, .slice so ops.length cap0] w fun e w' => e = .returned (.bool true) ∧ Below w.heap.size w w' := by
  by_cases h : 1 ≤ n ∧ n ≤ 16777216
  · obtain ⟨m, rfl⟩ := Int.eq_ofNat_of_zero_le (show 0 ≤ n by omega)
    exact plays_yes m (by omega) (by omega) so cap0 ops w hops hlen hkeep
  · exact plays_no n so ops.length cap0 w h hi
end Go.Proofs.Ytpdghpmfacaglaa
