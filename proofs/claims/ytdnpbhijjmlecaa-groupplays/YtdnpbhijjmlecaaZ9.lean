/- The document's Assign. -/
import Derived.Test.YtdnpbhijjmlecaaZ8
import Derived.Deep.CutRange
import Derived.Deep.CutBlock
import Derived.Lib.ConvBytes
namespace Go.Proofs.Ytdnpbhijjmlecaa
open Go.RowKit Go.Maps
set_option maxRecDepth 100000
set_option linter.unusedSimpArgs false
set_option linter.unusedVariables false

/-- The row so far: lists, apart from the row's own block. -/
def RInv (w wr : World) (v : Value) (l : List Int) (k i : Nat) : Prop := ∃ ds : List Value, ds.length = i ∧ wr.ownsRow w.heap.size 30 1 v i ds ∧ (∀ j (h : j < ds.length), IL wr ds[j] (shareL l k j) ∧ In (fun b => w.heap.size ≤ b ∧ v.ownBlock ≠ some b) ds[j] (shareL l k j)) ∧ Below w.heap.size w wr
theorem RInv.below {w wr : World} {v : Value} {l : List Int} {k i : Nat} (h : RInv w wr v l k i) : Below w.heap.size w wr := by obtain ⟨ds, _, _, _, h⟩ := h; exact h
theorem RInv.start (w : World) (l : List Int) (k : Nat) : RInv w w (.slice none 0 0) l k 0 := ⟨[], rfl, World.ownsRow_nil _ _ _ _, fun j h => by simp at h, Below.refl _ _⟩
theorem RInv.next {w wr W : World} {v : Value} {l : List Int} {k i : Nat} (h : RInv w wr v l k i) {x : Value} (hb : Below wr.heap.size wr W) (hx : IL W x (shareL l k i)) (hn : In (fun b => wr.heap.size ≤ b) x (shareL l k i)) {v' : Value} {w' : World}
    (hr : w'.ownsRow w.heap.size 30 1 v' (i + 1) ((Classical.choose h) ++ [x])) (hg : W.grownBy w' v.ownBlock) (hat : v'.ownBlock = v.ownBlock ∨ v'.ownBlock = some W.heap.size) : RInv w w' v' l k (i + 1) := by
  obtain ⟨d1, d2, d3, d4⟩ := Classical.choose_spec h
  generalize Classical.choose h = ds at *
  have hvl : ∀ b, v.ownBlock = some b → b < wr.heap.size := fun b hb => (World.ownsRow.lt d2 b hb).2
  have hne : ∀ b, b < W.heap.size → v.ownBlock ≠ some b → v'.ownBlock ≠ some b := fun b h1 h2 e => by
    rcases hat with h | h
    · exact h2 (by rw [← h]; exact e)
    · rw [h] at e; cases e; omega
  have hkeep : ∀ {z : Value} {m : List Int}, IL W z m → In (fun b => v.ownBlock ≠ some b) z m → IL w' z m := fun {z m} hz hin => by
    refine hz.keeps (S := fun b => v.ownBlock = some b) ⟨hg.os, hg.tape, hg.output, hg.size, fun b h1 h2 => hg.block b h1 (fun e => h2 e.symm)⟩ (hin.mono fun b hb => hb)
  have hxo : In (fun b => v.ownBlock ≠ some b) x (shareL l k i) := hn.mono fun b hb e => by have := hvl b e; omega
  refine ⟨ds ++ [x], by simp [d1], hr, fun j hj => ?_, (d4.trans (hb.mono d4.size)).grown hg (by have := hb.size; have := d4.size; omega) (fun b hb => (World.ownsRow.lt d2 b hb).1)⟩
  by_cases hj2 : j < ds.length
  · obtain ⟨g1, g2⟩ := d3 j hj2
    have e : (ds ++ [x])[j] = ds[j] := List.getElem_append_left hj2
    rw [e]
    have hold : In (fun b => b < W.heap.size) ds[j] (shareL l k j) := (g1.under hb).old
    exact ⟨hkeep (g1.under hb) (g2.mono fun b hb => hb.2), fun hn b off n c e2 => ⟨(g2 hn b off n c e2).1, hne b (hold hn b off n c e2) (g2 hn b off n c e2).2⟩⟩
  · have hjl : j = ds.length := by simp at hj; omega
    subst hjl
    have e : (ds ++ [x])[ds.length] = x := by simp
    rw [e, d1]
    have hold : In (fun b => b < W.heap.size) x (shareL l k i) := hx.old
    exact ⟨hkeep hx hxo, fun hne2 b off n c e2 => ⟨by have := hn hne2 b off n c e2; have := d4.size; omega, hne b (hold hne2 b off n c e2) (hxo hne2 b off n c e2)⟩⟩
theorem RInv.row {w wr : World} {v : Value} {l : List Int} {k i : Nat} (h : RInv w wr v l k i) : wr.ownsRow w.heap.size 30 1 v i (Classical.choose h) := (Classical.choose_spec h).2.1
theorem RInv.shape {w wr : World} {v : Value} {l : List Int} {k i : Nat} (h : RInv w wr v l k i) : ∃ a c, v = .slice a i c := by
  obtain ⟨oa, cap, e, _⟩ := row_shape (row_base h.row)
  exact ⟨oa, cap, e⟩
/-- What append([]int{}, x...) leaves. -/
theorem fresh_list {w : World} {v2 : Value} {w2 : World} {l : List Int} (hok : ∀ x ∈ l, I64 x) (hf : l.length ≤ 17592186044415) (hown : w2.ownsRow w.heap.size 3 1 v2 (0 + l.length) ([] ++ vals l)) : IL w2 v2 l ∧ In (fun b => w.heap.size ≤ b) v2 l := by
  rw [Nat.zero_add, List.nil_append] at hown
  exact ⟨IL.of hown hok hf, in_own hown⟩
end Go.Proofs.Ytdnpbhijjmlecaa

/- The document's Assign: the walk. -/
namespace Go.Proofs.Ytdnpbhijjmlecaa
open Go.RowKit Go.Maps
set_option maxRecDepth 100000
set_option linter.unusedSimpArgs false
set_option linter.unusedVariables false

theorem row_new (w : World) : (w.alloc (.cells #[] 3)).ownsRow w.heap.size 3 1 (.slice (some ⟨w.heap.size, 0, none⟩) 0 0) 0 [] := ⟨rfl, .inr ⟨w.heap.size, 0, #[], rfl, Nat.le_refl _, heap_alloc_new _ _, Nat.le_refl _, Nat.zero_le _, rfl, rfl⟩⟩
set_option maxHeartbeats 6400000 in
theorem rassign_any {w : World} {v u : Value} {ms l : List Int} (hm : IL w v ms) (hl : IL w u l) (hk : ms.length ≤ 1000) : Calls Try.prog 16 #[v, u] w fun e w' => ∃ v', e = .returned v' ∧ RInv w w' v' l ms.length ms.length := by
  obtain ⟨i0, hi0, hz0, hz1, hz2⟩ := info3
  obtain ⟨i1, hj0, hj1, hj2, hj3⟩ := info30
  have HL := hid hl
  obtain ⟨a, cap, rfl, hcap, hcm, hnn⟩ : ∃ a cap, u = .slice a l.length cap ∧ l.length ≤ cap ∧ cap ≤ maxLen ∧ (a = none → cap = 0) := by obtain ⟨⟨a, cap, e, h1, h2, h3, _⟩, _⟩ := hl; exact ⟨a, cap, e, h1, h2, h3⟩
  obtain ⟨ma, mcap, rfl⟩ : ∃ ma mcap, v = .slice ma ms.length mcap := by obtain ⟨⟨a, cap, e, _⟩, _⟩ := hm; exact ⟨a, cap, e⟩
  have hfew := hl.few
  clear hl hm
  have HNN := hid hnn
  clear hnn
  generalize ms.length = k at *
  obtain ⟨n, hn⟩ : ∃ n, n = l.length := ⟨_, rfl⟩
  have HN := hid hn
  rw [← hn] at hcap hfew ⊢
  clear hn
  have hml : n ≤ maxLen := by omega
  go_enter Try.func16, Try.ntmps16
  go_wp2_with fail
  go_loopg [5, 6, 7, 8] k (fun kx s5 s6 s7 s8 wr => ∃ i : Nat, i ≤ k ∧ k - i ≤ kx ∧ s7 = .int .i64 (i : Int) ∧ s6 = .int .i64 (fromN n k i : Int) ∧ (∃ a n c, s5 = .slice a n c) ∧ Hid (RInv w wr s5 l k i))
  case atStart => exact ⟨0, Nat.zero_le _, by omega, rfl, rfl, ⟨_, _, _, rfl⟩, RInv.start w l k⟩
  case round =>
    obtain ⟨i, hi, hkx, rfl, rfl, ⟨ra, rn, rc, rfl⟩, HI⟩ := hrel
    by_cases hlt : i < k
    · have hlt' : (i : Int) < (k : Int) := by omega
      have hk0 : (k : Int) ≠ 0 := by omega
      have HF := hid (from_top n k i hlt)
      have HS1 := hid (show fromN n k (i + 1) = fromN n k i + shareN n k i from rfl)
      have hsub := il_sub (HL.out.under HI.out.below) (fromN n k i) (shareN n k i) (by rw [← HN.out]; exact HF.out)
      have HSUB : Hid ((cap = fromN n k i → IL wr (.slice a (shareN n k i) 0) (shareL l k i)) ∧ IL wr (.slice (Option.map (fun x => x.add (fromN n k i)) a) (shareN n k i) (cap - fromN n k i)) (shareL l k i)) := by
        have e : shareL l k i = (l.drop (fromN n k i)).take (shareN n k i) := by unfold shareL; rw [← HN.out]
        rw [e]; exact hsub
      have HLEN : Hid ((shareL l k i).length = shareN n k i) := by show _ = _; rw [HN.out]; exact shareL_len l k i hlt
      have HNX : Hid (∀ x W v' w', Below wr.heap.size wr W → IL W x (shareL l k i) → In (fun b => wr.heap.size ≤ b) x (shareL l k i) → w'.ownsRow w.heap.size 30 1 v' (i + 1) ((Classical.choose HI.out) ++ [x]) → W.grownBy w' (Value.slice ra rn rc).ownBlock → (v'.ownBlock = (Value.slice ra rn rc).ownBlock ∨ v'.ownBlock = some W.heap.size) → RInv w w' v' l k (i + 1)) := fun x W v' w' h1 h2 h3 h4 h5 h6 => HI.out.next h1 h2 h3 h4 h5 h6
      have HROW : Hid (∀ W, Below wr.heap.size wr W → W.ownsRow w.heap.size 30 1 (.slice ra rn rc) i (Classical.choose HI.out)) := fun W hW => by
        obtain ⟨h1, h2 | ⟨g, cp, cur, e, hB, hg, r⟩⟩ := HI.out.row
        · exact ⟨h1, .inl h2⟩
        · exact ⟨h1, .inr ⟨g, cp, cur, e, hB, (hW.block g (Array.getElem?_eq_some_iff.1 hg).1).trans hg, r⟩⟩
      have hbsz := HI.out.below.size
      have hfb := HF.out
      generalize Classical.choose HI.out = DS at *
      generalize hff : fromN n k i = f at *
      clear hff hsub
      have HOK : Hid (∀ x ∈ shareL l k i, I64 x) := HSUB.out.2.ok
      generalize shareL l k i = ls at *
      have hd : (n : Int) / (k : Int) = ((n / k : Nat) : Int) := by simp
      by_cases hr : i < n % k
      · have hr' : (i : Int) < (n : Int) % (k : Int) := by omega
        have hs : shareN n k i = n / k + 1 := by unfold shareN; rw [if_pos hr]
        rw [hs] at hfb HSUB HS1 HLEN
        clear hs
        have hdb : n / k ≤ n := Nat.div_le_self _ _
        generalize n / k = d at *
        have hlsn : ls.length = d + 1 := HLEN.out
        have HLS := hid hlsn
        clear HF hlsn HLEN
        have hap : ∃ ad, a = some ad := by
          cases a with
          | none => exfalso; have := HNN.out rfl; omega
          | some ad => exact ⟨ad, rfl⟩
        obtain ⟨ad, rfl⟩ := hap
        have HIL : Hid (IL wr (.slice (some (ad.add f)) (d + 1) (cap - f)) ls) := HSUB.out.2
        have HB0 : Hid (Below wr.heap.size wr (wr.alloc (.cells #[] 3))) := (Below.refl _ _).alloc (Nat.le_refl _) _
        have HNW : Hid (∀ j u, (vals ls)[j]? = some u → (wr.alloc (.cells #[] 3)).cell? ((ad.add f).add j) = some u) := (HIL.out.under HB0.out).vcells.2
        have HRW0 := hid (row_new wr)
        have HON := hid (vals_one ls)
        have HLn : Hid ((vals ls).length = (f + (d + 1) - f) * 1) := by show _ = _; have := HLS.out; rw [vals_length]; omega
        have hlf : ls.length ≤ 17592186044415 := HIL.out.few
        have hmf : (f + (d + 1) - f) ≤ 17592186044415 := by have := HLS.out; omega
        have HOUT : Hid (∀ x2 w2, w2.ownsRow wr.heap.size 3 1 x2 (0 + (f + (d + 1) - f)) ([] ++ vals ls) → (wr.alloc (.cells #[] 3)).grownBy w2 (some wr.heap.size) → Below wr.heap.size wr w2 ∧ IL w2 x2 ls ∧ In (fun b => wr.heap.size ≤ b) x2 ls ∧ ∃ a n c, x2 = .slice a n c) := fun x2 w2 h1 h2 => by
          have e : ls.length = f + (d + 1) - f := by have := HLS.out; omega
          have h1' : w2.ownsRow wr.heap.size 3 1 x2 (0 + ls.length) ([] ++ vals ls) := by rw [e]; exact h1
          obtain ⟨g1, g2⟩ := fresh_list HOK.out hlf h1'
          exact ⟨HB0.out.grown h2 HB0.out.size (fun j hj => by cases hj; exact Nat.le_refl _), g1, g2, own_shape h1⟩
        have HFIN : Hid (∀ x2 w2, Below wr.heap.size wr w2 → IL w2 x2 ls → In (fun b => wr.heap.size ≤ b) x2 ls → (w2.alloc (.cells #[x2] 30)).ownsRow w.heap.size 30 1 (.slice ra rn rc) i DS ∧ (∀ j u, ([x2] : List Value)[j]? = some u → (w2.alloc (.cells #[x2] 30)).cell? ((⟨w2.heap.size, 0, none⟩ : Addr).add j) = some u) ∧ ∀ v' w', w'.ownsRow w.heap.size 30 1 v' (i + 1) (DS ++ [x2]) → (w2.alloc (.cells #[x2] 30)).grownBy w' (Value.slice ra rn rc).ownBlock → (v'.ownBlock = (Value.slice ra rn rc).ownBlock ∨ v'.ownBlock = some (w2.alloc (.cells #[x2] 30)).heap.size) → RInv w w' v' l k (i + 1)) := fun x2 w2 h1 h2 h3 => by
          have hb : Below w2.heap.size w2 (w2.alloc (.cells #[x2] 30)) := (Below.refl _ _).alloc (Nat.le_refl _) _
          refine ⟨HROW.out _ (h1.trans (hb.mono h1.size)), fun j u hu => ?_, fun v' w' g1 g2 g3 => HNX.out x2 _ v' w' (h1.trans (hb.mono h1.size)) (h2.under hb) h3 g1 g2 g3⟩
          rw [add_at, Nat.zero_add]
          exact cell_blk (heap_alloc_new w2 (.cells #[x2] 30)) j u (by simpa using hu)
        go_wp2_with (first | (at_builtin; refine wpList_append_own_at _ rfl _ _ 30 rfl wr.heap.size 3 i0 _ 1 8 Try.underlying30 hi0 hz0 hz1 hz2 rfl (by decide) _ 0 [] rfl HRW0.out (ad.add f) (f + (d + 1) - f) (cap - f) (vals ls) rfl HLn.out HNW.out HON.out (by unfold maxLen; omega) (by omega) (by simp) ?_; intro x2 w2 hown2 hg2 _ _; obtain ⟨o1, o2, o3, xa, xn, xc, rfl⟩ := HOUT.out x2 w2 hown2 hg2; obtain ⟨p1, p2, p3⟩ := HFIN.out _ _ o1 o2 o3; have HP1 := hid p1; have HP2 := hid p2; have HP3 := hid p3; have hbs2 := o1.size; clear hown2 hg2 o1 o2 o3 p1 p2 p3) | (at_builtin; go_loud (refine wpList_append_own_at _ rfl _ _ 42 rfl w.heap.size 30 i1 _ 1 24 Try.underlying42 hj0 hj1 hj2 hj3 rfl (by decide) _ i DS rfl HP1.out ⟨w2.heap.size, 0, none⟩ 1 1 _ rfl rfl HP2.out (fun u hu => by rw [List.mem_singleton] at hu; subst hu; rfl) (by first | omega | (unfold maxLen; omega)) (by omega) (by first | omega | (simp; omega)) ?_); intro v5 w5 hown5 hg5 _ hat5; obtain ⟨a5, n5, c5, rfl⟩ : ∃ a n c, v5 = .slice a n c := (by obtain ⟨oa, cp, e, _⟩ := row_shape (row_base hown5); exact ⟨_, _, _, e⟩); have HR5 := hid (HP3.out _ _ hown5 hg5 hat5); clear hown5 hg5 hat5) | fail)
        all_goals first | (exfalso; omega) | skip
        go_roundg (k - (i + 1))
        case measure => omega
        case rel => exact ⟨i + 1, by omega, Nat.le_refl _, by go_num, by rw [HS1.out]; go_num, ⟨_, _, _, rfl⟩, HR5.out⟩
      · have hr' : ¬ (i : Int) < (n : Int) % (k : Int) := by omega
        have hs : shareN n k i = n / k := by unfold shareN; rw [if_neg hr]; rfl
        rw [hs] at hfb HSUB HS1 HLEN
        clear hs
        have hdb : n / k ≤ n := Nat.div_le_self _ _
        generalize n / k = d at *
        have hlsn : ls.length = d := HLEN.out
        have HLS := hid hlsn
        clear HF hlsn HLEN
        cases a with
        | none =>
          have hc0 := HNN.out rfl
          have hd0 : d = 0 := by omega
          have hf0 : f = 0 := by omega
          have hn0 : n = 0 := by omega
          subst hd0 hf0 hn0 hc0
          have hd' : ((0 : Nat) : Int) / (k : Int) = 0 := by simp
          have hd2 : (0 : Int) / (k : Int) = 0 := by simp
          have hls : ls = [] := List.eq_nil_of_length_eq_zero HLS.out
          have HLE := hid hls
          clear hd hfb hls
          have HB0 : Hid (Below wr.heap.size wr (wr.alloc (.cells #[] 3))) := (Below.refl _ _).alloc (Nat.le_refl _) _
          have HRW0 := hid (row_new wr)
          have HFIN : Hid (∀ x2 w2, Below wr.heap.size wr w2 → IL w2 x2 ls → In (fun b => wr.heap.size ≤ b) x2 ls → (w2.alloc (.cells #[x2] 30)).ownsRow w.heap.size 30 1 (.slice ra rn rc) i DS ∧ (∀ j u, ([x2] : List Value)[j]? = some u → (w2.alloc (.cells #[x2] 30)).cell? ((⟨w2.heap.size, 0, none⟩ : Addr).add j) = some u) ∧ ∀ v' w', w'.ownsRow w.heap.size 30 1 v' (i + 1) (DS ++ [x2]) → (w2.alloc (.cells #[x2] 30)).grownBy w' (Value.slice ra rn rc).ownBlock → (v'.ownBlock = (Value.slice ra rn rc).ownBlock ∨ v'.ownBlock = some (w2.alloc (.cells #[x2] 30)).heap.size) → RInv w w' v' l k (i + 1)) := fun x2 w2 h1 h2 h3 => by
            have hb : Below w2.heap.size w2 (w2.alloc (.cells #[x2] 30)) := (Below.refl _ _).alloc (Nat.le_refl _) _
            refine ⟨HROW.out _ (h1.trans (hb.mono h1.size)), fun j u hu => ?_, fun v' w' g1 g2 g3 => HNX.out x2 _ v' w' (h1.trans (hb.mono h1.size)) (h2.under hb) h3 g1 g2 g3⟩
            rw [add_at, Nat.zero_add]
            exact cell_blk (heap_alloc_new w2 (.cells #[x2] 30)) j u (by simpa using hu)
          obtain ⟨p1, p2, p3⟩ := HFIN.out (.slice (some ⟨wr.heap.size, 0, none⟩) 0 0) _ HB0.out (by rw [HLE.out]; exact IL.of (row_new wr) (fun x hx => by cases hx) (by simp)) (by rw [HLE.out]; exact In.nil _ _)
          rw [show (wr.alloc (.cells #[] 3)).heap.size = wr.heap.size + 1 by simp] at p2
          have HP1 := hid p1
          have HP2 := hid p2
          have HP3 := hid p3
          clear p1 p2 p3
          have hbs2 : wr.heap.size ≤ (wr.alloc (.cells #[] 3)).heap.size := by simp
          go_wp2_with (first | (at_builtin; refine wpList_append_own_none rfl _ _ 30 rfl wr.heap.size 3 i0 1 Try.underlying30 hi0 _ 0 [] rfl HRW0.out rfl ?_) | (at_builtin; go_loud (refine wpList_append_own_at _ rfl _ _ 42 rfl w.heap.size 30 i1 _ 1 24 Try.underlying42 hj0 hj1 hj2 hj3 rfl (by decide) _ i DS rfl HP1.out ⟨wr.heap.size + 1, 0, none⟩ 1 1 [.slice (some ⟨wr.heap.size, 0, none⟩) 0 0] rfl rfl HP2.out (fun u hu => by rw [List.mem_singleton] at hu; subst hu; rfl) (by first | omega | (unfold maxLen; omega)) (by omega) (by first | omega | (simp; omega)) ?_); intro v5 w5 hown5 hg5 _ hat5; obtain ⟨a5, n5, c5, rfl⟩ : ∃ a n c, v5 = .slice a n c := (by obtain ⟨oa, cp, e, _⟩ := row_shape (row_base hown5); exact ⟨_, _, _, e⟩); have HR5 := hid (HP3.out _ _ hown5 hg5 hat5); clear hown5 hg5 hat5) | fail)
          all_goals first | (exfalso; omega) | skip
          go_roundg (k - (i + 1))
          case measure => omega
          case rel => exact ⟨i + 1, by omega, Nat.le_refl _, by go_num, by rw [HS1.out]; go_num, ⟨_, _, _, rfl⟩, HR5.out⟩
        | some ad =>
          by_cases hcf : cap = f
          · have hd0 : d = 0 := by omega
            subst hd0
            subst hcf
            have hd2 : (n : Int) / (k : Int) = 0 := by simpa using hd
            clear hd
            have HIL : Hid (IL wr (.slice (some (ad)) (0) (0)) ls) := HSUB.out.1 rfl
            have HB0 : Hid (Below wr.heap.size wr (wr.alloc (.cells #[] 3))) := (Below.refl _ _).alloc (Nat.le_refl _) _
            have HNW : Hid (∀ j u, (vals ls)[j]? = some u → (wr.alloc (.cells #[] 3)).cell? ((ad).add j) = some u) := (HIL.out.under HB0.out).vcells.2
            have HRW0 := hid (row_new wr)
            have HON := hid (vals_one ls)
            have HLn : Hid ((vals ls).length = (0) * 1) := by show _ = _; have := HLS.out; rw [vals_length]; omega
            have hlf : ls.length ≤ 17592186044415 := HIL.out.few
            have hmf : (0) ≤ 17592186044415 := by have := HLS.out; omega
            have HOUT : Hid (∀ x2 w2, w2.ownsRow wr.heap.size 3 1 x2 (0 + (0)) ([] ++ vals ls) → (wr.alloc (.cells #[] 3)).grownBy w2 (some wr.heap.size) → Below wr.heap.size wr w2 ∧ IL w2 x2 ls ∧ In (fun b => wr.heap.size ≤ b) x2 ls ∧ ∃ a n c, x2 = .slice a n c) := fun x2 w2 h1 h2 => by
              have e : ls.length = 0 := by have := HLS.out; omega
              have h1' : w2.ownsRow wr.heap.size 3 1 x2 (0 + ls.length) ([] ++ vals ls) := by rw [e]; exact h1
              obtain ⟨g1, g2⟩ := fresh_list HOK.out hlf h1'
              exact ⟨HB0.out.grown h2 HB0.out.size (fun j hj => by cases hj; exact Nat.le_refl _), g1, g2, own_shape h1⟩
            have HFIN : Hid (∀ x2 w2, Below wr.heap.size wr w2 → IL w2 x2 ls → In (fun b => wr.heap.size ≤ b) x2 ls → (w2.alloc (.cells #[x2] 30)).ownsRow w.heap.size 30 1 (.slice ra rn rc) i DS ∧ (∀ j u, ([x2] : List Value)[j]? = some u → (w2.alloc (.cells #[x2] 30)).cell? ((⟨w2.heap.size, 0, none⟩ : Addr).add j) = some u) ∧ ∀ v' w', w'.ownsRow w.heap.size 30 1 v' (i + 1) (DS ++ [x2]) → (w2.alloc (.cells #[x2] 30)).grownBy w' (Value.slice ra rn rc).ownBlock → (v'.ownBlock = (Value.slice ra rn rc).ownBlock ∨ v'.ownBlock = some (w2.alloc (.cells #[x2] 30)).heap.size) → RInv w w' v' l k (i + 1)) := fun x2 w2 h1 h2 h3 => by
              have hb : Below w2.heap.size w2 (w2.alloc (.cells #[x2] 30)) := (Below.refl _ _).alloc (Nat.le_refl _) _
              refine ⟨HROW.out _ (h1.trans (hb.mono h1.size)), fun j u hu => ?_, fun v' w' g1 g2 g3 => HNX.out x2 _ v' w' (h1.trans (hb.mono h1.size)) (h2.under hb) h3 g1 g2 g3⟩
              rw [add_at, Nat.zero_add]
              exact cell_blk (heap_alloc_new w2 (.cells #[x2] 30)) j u (by simpa using hu)
            go_wp2_with (first | (at_builtin; refine wpList_append_own_at _ rfl _ _ 30 rfl wr.heap.size 3 i0 _ 1 8 Try.underlying30 hi0 hz0 hz1 hz2 rfl (by decide) _ 0 [] rfl HRW0.out (ad) (0) (0) (vals ls) rfl HLn.out HNW.out HON.out (by unfold maxLen; omega) (by omega) (by simp) ?_; intro x2 w2 hown2 hg2 _ _; obtain ⟨o1, o2, o3, xa, xn, xc, rfl⟩ := HOUT.out x2 w2 hown2 hg2; obtain ⟨p1, p2, p3⟩ := HFIN.out _ _ o1 o2 o3; have HP1 := hid p1; have HP2 := hid p2; have HP3 := hid p3; have hbs2 := o1.size; clear hown2 hg2 o1 o2 o3 p1 p2 p3) | (at_builtin; go_loud (refine wpList_append_own_at _ rfl _ _ 42 rfl w.heap.size 30 i1 _ 1 24 Try.underlying42 hj0 hj1 hj2 hj3 rfl (by decide) _ i DS rfl HP1.out ⟨w2.heap.size, 0, none⟩ 1 1 _ rfl rfl HP2.out (fun u hu => by rw [List.mem_singleton] at hu; subst hu; rfl) (by first | omega | (unfold maxLen; omega)) (by omega) (by first | omega | (simp; omega)) ?_); intro v5 w5 hown5 hg5 _ hat5; obtain ⟨a5, n5, c5, rfl⟩ : ∃ a n c, v5 = .slice a n c := (by obtain ⟨oa, cp, e, _⟩ := row_shape (row_base hown5); exact ⟨_, _, _, e⟩); have HR5 := hid (HP3.out _ _ hown5 hg5 hat5); clear hown5 hg5 hat5) | fail)
            all_goals first | (exfalso; omega) | skip
            go_roundg (k - (i + 1))
            case measure => omega
            case rel => exact ⟨i + 1, by omega, Nat.le_refl _, by go_num, by rw [HS1.out]; go_num, ⟨_, _, _, rfl⟩, HR5.out⟩
          · skip
            have HIL : Hid (IL wr (.slice (some (ad.add f)) (d) (cap - f)) ls) := HSUB.out.2
            have HB0 : Hid (Below wr.heap.size wr (wr.alloc (.cells #[] 3))) := (Below.refl _ _).alloc (Nat.le_refl _) _
            have HNW : Hid (∀ j u, (vals ls)[j]? = some u → (wr.alloc (.cells #[] 3)).cell? ((ad.add f).add j) = some u) := (HIL.out.under HB0.out).vcells.2
            have HRW0 := hid (row_new wr)
            have HON := hid (vals_one ls)
            have HLn : Hid ((vals ls).length = (f + d - f) * 1) := by show _ = _; have := HLS.out; rw [vals_length]; omega
            have hlf : ls.length ≤ 17592186044415 := HIL.out.few
            have hmf : (f + d - f) ≤ 17592186044415 := by have := HLS.out; omega
            have HOUT : Hid (∀ x2 w2, w2.ownsRow wr.heap.size 3 1 x2 (0 + (f + d - f)) ([] ++ vals ls) → (wr.alloc (.cells #[] 3)).grownBy w2 (some wr.heap.size) → Below wr.heap.size wr w2 ∧ IL w2 x2 ls ∧ In (fun b => wr.heap.size ≤ b) x2 ls ∧ ∃ a n c, x2 = .slice a n c) := fun x2 w2 h1 h2 => by
              have e : ls.length = f + d - f := by have := HLS.out; omega
              have h1' : w2.ownsRow wr.heap.size 3 1 x2 (0 + ls.length) ([] ++ vals ls) := by rw [e]; exact h1
              obtain ⟨g1, g2⟩ := fresh_list HOK.out hlf h1'
              exact ⟨HB0.out.grown h2 HB0.out.size (fun j hj => by cases hj; exact Nat.le_refl _), g1, g2, own_shape h1⟩
            have HFIN : Hid (∀ x2 w2, Below wr.heap.size wr w2 → IL w2 x2 ls → In (fun b => wr.heap.size ≤ b) x2 ls → (w2.alloc (.cells #[x2] 30)).ownsRow w.heap.size 30 1 (.slice ra rn rc) i DS ∧ (∀ j u, ([x2] : List Value)[j]? = some u → (w2.alloc (.cells #[x2] 30)).cell? ((⟨w2.heap.size, 0, none⟩ : Addr).add j) = some u) ∧ ∀ v' w', w'.ownsRow w.heap.size 30 1 v' (i + 1) (DS ++ [x2]) → (w2.alloc (.cells #[x2] 30)).grownBy w' (Value.slice ra rn rc).ownBlock → (v'.ownBlock = (Value.slice ra rn rc).ownBlock ∨ v'.ownBlock = some (w2.alloc (.cells #[x2] 30)).heap.size) → RInv w w' v' l k (i + 1)) := fun x2 w2 h1 h2 h3 => by
              have hb : Below w2.heap.size w2 (w2.alloc (.cells #[x2] 30)) := (Below.refl _ _).alloc (Nat.le_refl _) _
              refine ⟨HROW.out _ (h1.trans (hb.mono h1.size)), fun j u hu => ?_, fun v' w' g1 g2 g3 => HNX.out x2 _ v' w' (h1.trans (hb.mono h1.size)) (h2.under hb) h3 g1 g2 g3⟩
              rw [add_at, Nat.zero_add]
              exact cell_blk (heap_alloc_new w2 (.cells #[x2] 30)) j u (by simpa using hu)
            go_wp2_with (first | (at_builtin; refine wpList_append_own_at _ rfl _ _ 30 rfl wr.heap.size 3 i0 _ 1 8 Try.underlying30 hi0 hz0 hz1 hz2 rfl (by decide) _ 0 [] rfl HRW0.out (ad.add f) (f + d - f) (cap - f) (vals ls) rfl HLn.out HNW.out HON.out (by unfold maxLen; omega) (by omega) (by simp) ?_; intro x2 w2 hown2 hg2 _ _; obtain ⟨o1, o2, o3, xa, xn, xc, rfl⟩ := HOUT.out x2 w2 hown2 hg2; obtain ⟨p1, p2, p3⟩ := HFIN.out _ _ o1 o2 o3; have HP1 := hid p1; have HP2 := hid p2; have HP3 := hid p3; have hbs2 := o1.size; clear hown2 hg2 o1 o2 o3 p1 p2 p3) | (at_builtin; go_loud (refine wpList_append_own_at _ rfl _ _ 42 rfl w.heap.size 30 i1 _ 1 24 Try.underlying42 hj0 hj1 hj2 hj3 rfl (by decide) _ i DS rfl HP1.out ⟨w2.heap.size, 0, none⟩ 1 1 _ rfl rfl HP2.out (fun u hu => by rw [List.mem_singleton] at hu; subst hu; rfl) (by first | omega | (unfold maxLen; omega)) (by omega) (by first | omega | (simp; omega)) ?_); intro v5 w5 hown5 hg5 _ hat5; obtain ⟨a5, n5, c5, rfl⟩ : ∃ a n c, v5 = .slice a n c := (by obtain ⟨oa, cp, e, _⟩ := row_shape (row_base hown5); exact ⟨_, _, _, e⟩); have HR5 := hid (HP3.out _ _ hown5 hg5 hat5); clear hown5 hg5 hat5) | fail)
            all_goals first | (exfalso; omega) | skip
            go_roundg (k - (i + 1))
            case measure => omega
            case rel => exact ⟨i + 1, by omega, Nat.le_refl _, by go_num, by rw [HS1.out]; go_num, ⟨_, _, _, rfl⟩, HR5.out⟩
    · have hik : i = k := by omega
      subst hik
      have hlt' : ¬ (i : Int) < (i : Int) := by omega
      go_wp2_with fail
      go_ret
      exact ⟨_, rfl, HI.out⟩
end Go.Proofs.Ytdnpbhijjmlecaa

/- Partitions are given by ranges: the walk. -/
namespace Go.Proofs.Ytdnpbhijjmlecaa
open Go.RowKit Go.Maps
set_option maxRecDepth 100000
set_option linter.unusedSimpArgs false
set_option linter.unusedVariables false

theorem share_first (n k i : Nat) : shareN n k i ≤ shareN n k 0 ∧ shareN n k 0 ≤ shareN n k i + 1 := by
  unfold shareN
  constructor
  · split <;> split <;> omega
  · split <;> split <;> omega
theorem take_share (l : List Int) (k i : Nat) : l.take (fromN l.length k (i + 1)) = l.take (fromN l.length k i) ++ shareL l k i := by
  rw [fromN, List.take_add]; rfl
theorem RInv.cell {w wr : World} {v : Value} {l : List Int} {k : Nat} (h : RInv w wr v l k k) (j : Nat) (hj : j < k) : ∃ g c x, v = .slice (some ⟨g, 0, none⟩) k c ∧ wr.cell? ⟨g, j, none⟩ = some x ∧ IL wr x (shareL l k j) := by
  obtain ⟨ds, d1, d2, d3, d4⟩ := h
  obtain ⟨oa, cap, e, _, _, _, hat⟩ := row_shape (row_base d2)
  obtain ⟨g, rfl⟩ := hat (by omega)
  subst e
  have hc := World.ownsRow.cells d2 (g := g) rfl j ds[j] (by simp [List.getElem?_eq_getElem (show j < ds.length by omega)])
  rw [add_at, Nat.zero_add] at hc
  exact ⟨g, cap, _, rfl, hc, (d3 j (by omega)).1⟩
set_option maxHeartbeats 6400000 in
theorem assigns_walk {w : World} {v u : Value} {ms l : List Int} (hm : IL w v ms) (hl : IL w u l) : Calls Try.prog 4 #[v, u] w fun e w' => e = .returned (.bool true) ∧ Below w.heap.size w w' := by
  obtain ⟨i0, hi0, hz0, hz1, hz2⟩ := info3
  have HSH := hid (shown_any w)
  have HM := hid hm
  have HL := hid hl
  obtain ⟨ma, mc, rfl⟩ : ∃ a c, v = .slice a ms.length c := by obtain ⟨⟨a, cap, e, _⟩, _⟩ := hm; exact ⟨a, cap, e⟩
  obtain ⟨la, lc, rfl⟩ : ∃ a c, u = .slice a l.length c := by obtain ⟨⟨a, cap, e, _⟩, _⟩ := hl; exact ⟨a, cap, e⟩
  have hmf := hm.few
  have hlf := hl.few
  clear hm hl
  by_cases hk : ms.length ≤ 200
  · by_cases hn : l.length ≤ 2000
    · have hk' : ¬ (200 : Int) < (ms.length : Int) := by omega
      have hn' : ¬ (2000 : Int) < (l.length : Int) := by omega
      go_enter Try.func4, Try.ntmps4
      go_wp2_with fail
      refine HSH.out.mono ?_
      rintro e W1 ⟨rfl, hbs⟩
      have HBS := hid hbs
      clear HSH
      have HA := hid (assign_any (HM.out.under hbs) (HL.out.under hbs) (by omega))
      clear hbs
      go_wp2_with fail
      refine HA.out.mono ?_
      rintro e w2 ⟨rfl, hai⟩
      have HAI := hid hai
      have HB2 := hid (HBS.out.trans (hai.below.mono HBS.out.size))
      clear hai HA
      have HR := hid (rassign_any (HM.out.under HB2.out) (HL.out.under HB2.out) (by omega))
      go_wp2_with fail
      refine HR.out.mono ?_
      rintro e w3 ⟨v3, rfl, hri⟩
      have HRI := hid hri
      have HB3 := hid hri.below
      obtain ⟨ra, rc, rfl⟩ := hri.shape
      clear hri HR
      have HLW3 := hid (HL.out.under (HB2.out.trans (HB3.out.mono HB2.out.size)))
      obtain ⟨A, hA⟩ : ∃ A, A = W1.heap.size := ⟨_, rfl⟩
      have HCELL : Hid (∀ i, i < ms.length → ∃ xa xc g c ya yc, Value.slice ra ms.length rc = .slice (some ⟨g, 0, none⟩) ms.length c ∧ IL w3 (.slice xa (shareN l.length ms.length i) xc) (shareL l ms.length i) ∧ IL w3 (.slice ya (shareN l.length ms.length i) yc) (shareL l ms.length i) ∧ w3.cell? ⟨A, i, none⟩ = some (.slice xa (shareN l.length ms.length i) xc) ∧ w3.cell? ⟨g, i, none⟩ = some (.slice ya (shareN l.length ms.length i) yc)) := fun i hi => by
        obtain ⟨x, h1, h2, _⟩ := HAI.out.cell i hi
        obtain ⟨g, c, y, h4, h5, h6⟩ := HRI.out.cell i hi
        have hsl := shareL_len l ms.length i hi
        obtain ⟨xa, xc, rfl⟩ : ∃ a c, x = .slice a (shareL l ms.length i).length c := by obtain ⟨⟨a, cap, e, _⟩, _⟩ := h2; exact ⟨_, _, e⟩
        obtain ⟨ya, yc, rfl⟩ : ∃ a c, y = .slice a (shareL l ms.length i).length c := by obtain ⟨⟨a, cap, e, _⟩, _⟩ := h6; exact ⟨_, _, e⟩
        rw [hsl] at h1 h2 h5 h6
        refine ⟨xa, xc, g, c, ya, yc, h4, h2.under HB3.out, h6, ?_, h5⟩
        rw [hA]
        exact kept_cell HB3.out h1
      rw [← hA]
      clear hA
      have HTS := hid (take_share l ms.length)
      have HSF := hid (fun i => share_first l.length ms.length i)
      have HFT := hid (fun i hi => from_top l.length ms.length i hi)
      have HFS : Hid (∀ i, fromN l.length ms.length (i + 1) = fromN l.length ms.length i + shareN l.length ms.length i) := fun i => rfl
      have HFA := hid (fun h => from_all l.length ms.length h)
      generalize hK : ms.length = k at *
      clear hK
      go_wp2_with fail
      go_loopg [8, 9] k (fun kx s8 s9 wr => ∃ i : Nat, i ≤ k ∧ k - i ≤ kx ∧ s9 = .int .i64 (i : Int) ∧ (∃ a n c, s8 = .slice a n c) ∧ Hid (wr.ownsRow w3.heap.size 3 1 s8 (l.take (fromN l.length k i)).length (vals (l.take (fromN l.length k i))) ∧ Below w3.heap.size w3 wr))
      case atStart => exact ⟨0, Nat.zero_le _, by omega, rfl, ⟨_, _, _, rfl⟩, by simp [fromN, vals]; exact World.ownsRow_nil _ _ _ _, Below.refl _ _⟩
      case round =>
        obtain ⟨i, hi, hkx, rfl, ⟨a8, n8, c8, rfl⟩, HI⟩ := hrel
        by_cases hlt : i < k
        · have hlt' : (i : Int) < (k : Int) := by omega
          have hi0' : (0 : Int) ≤ (i : Int) := by omega
          have hk0' : (0 : Int) < (k : Int) := by omega
          obtain ⟨xa, xc, g, gc, ya, yc, e1, ix, iy, cx, cy⟩ := HCELL.out i hlt
          obtain ⟨xa0, xc0, _, _, _, _, _, ix0, _, cx0, _⟩ := HCELL.out 0 (by omega)
          simp only [Value.slice.injEq] at e1
          obtain ⟨rfl, _, rfl⟩ := e1
          have hsf := HSF.out i
          have hft := HFT.out i hlt
          have hft0 := HFT.out 0 (by omega)
          have HSL := hid (fun V (hV : Below w3.heap.size w3 V) => sameList_any (ix.under hV) (iy.under hV))
          have HIX := hid ix
          have dx := kept_cell HI.out.2 cx
          have dy := kept_cell HI.out.2 cy
          have HD0 : Hid (∀ V, Below w3.heap.size w3 V → V.cell? ⟨A, i, none⟩ = some (.slice xa (shareN l.length k i) xc) ∧ V.cell? ⟨A, 0, none⟩ = some (.slice xa0 (shareN l.length k 0) xc0)) := fun V hV => ⟨kept_cell hV cx, kept_cell hV cx0⟩
          have hT : decide (shareL l k i = shareL l k i) = true := by simp
          rw [hT] at HSL
          have HTI := hid (HTS.out i)
          have HFI := hid (HFS.out i)
          have HLI : Hid ((l.take (fromN l.length k i)).length = fromN l.length k i) := by show _ = _; rw [List.length_take]; omega
          have HLS := hid (shareL_len l k i hlt)
          clear cx cy cx0 ix iy ix0 hT
          generalize shareL l k i = ls at *
          generalize l.take (fromN l.length k i) = T at *
          generalize fromN l.length k i = f at *
          generalize hsi : shareN l.length k i = si at *
          generalize hs0 : shareN l.length k 0 = s0 at *
          clear hsi hs0
          go_wp2_with fail
          go_region_held3 (fun V => V.cell? ⟨A, i, none⟩ = some (.slice xa si xc) ∧ V.cell? ⟨g, i, none⟩ = some (.slice ya si yc)) (first | assumption | go_keep)
            (first | (go_at_call 17; refine (HSL.out _ (by first | exact HI.out.2 | exact HI.out.2.drew)).mono ?_; rintro e w5 ⟨rfl, hb5⟩; have hB5 := (by first | exact HI.out.2 | exact HI.out.2.drew : Below w3.heap.size w3 _).trans (hb5.mono (by first | exact HI.out.2 | exact HI.out.2.drew : Below w3.heap.size w3 _).size); have ex := (HD0.out w5 hB5).1; have ey : w5.cell? ⟨g, i, none⟩ = some (.slice ya si yc) := kept_cell hb5 (by first | exact dy | exact (by simpa using dy))) | fail)
          obtain ⟨ex1, ex0⟩ := HD0.out w5 hB5
          have hsn1 : ¬ (s0 : Int) < (si : Int) := by omega
          have hsn2 : ¬ (si : Int) < (s0 : Int) - 1 := by omega
          have hsw : IntKind.i64.wrap ((s0 : Int) - 1) = (s0 : Int) - 1 := IntWalk.i64_in _ ⟨by omega, by omega⟩
          have HROW5 : Hid (w5.ownsRow w3.heap.size 3 1 (.slice a8 n8 c8) T.length (vals T)) := by
            obtain ⟨h1, h2 | ⟨g', cp, cur, e, hB, hg, r⟩⟩ := HI.out.1
            · exact ⟨h1, .inl h2⟩
            · exact ⟨h1, .inr ⟨g', cp, cur, e, hB, (hb5.block g' (Array.getElem?_eq_some_iff.1 hg).1).trans hg, r⟩⟩
          have HB5 := hid hB5
          have HTN : Hid ((l.take (fromN l.length k (i + 1))).length = T.length + si ∧ vals (l.take (fromN l.length k (i + 1))) = vals T ++ vals ls) := by
            rw [HTI.out]
            exact ⟨by rw [List.length_append, HLS.out], by simp [vals]⟩
          have hTl : T.length ≤ 2000 := by have := HLI.out; omega
          have HON := hid (vals_one ls)
          have HLn : Hid ((vals ls).length = si * 1) := by show _ = _; rw [vals_length, HLS.out]; omega
          have hq1 : decide (s0 < si) = false := by simp; omega
          have hq2 : decide ((si : Int) < (s0 : Int) - 1) = false := by simp; omega
          have hq3 : (0 : Nat) < k := by omega
          go_wp2_with fail
          go_quiet (fail)
          clear hsn1 hsn2 hsw hq1 hq2 ex1 ex0
          obtain ⟨W5, hW5, hWB⟩ : ∃ W5, W5 = w5.drewN nq ∧ Below w5.heap.size w5 W5 := ⟨_, rfl, below_drewN (Below.refl _ _) _⟩
          have hbW : Below w3.heap.size w3 W5 := HB5.out.trans (hWB.mono HB5.out.size)
          have HROWd : Hid (W5.ownsRow w3.heap.size 3 1 (.slice a8 n8 c8) T.length (vals T)) := by
            obtain ⟨h1, h2 | ⟨g', cp, cur, e, hB, hg, r⟩⟩ := HROW5.out
            · exact ⟨h1, .inl h2⟩
            · exact ⟨h1, .inr ⟨g', cp, cur, e, hB, (hWB.block g' (Array.getElem?_eq_some_iff.1 hg).1).trans hg, r⟩⟩
          rw [← hW5]
          have exd := (HD0.out W5 hbW).1
          have HIX5 := hid (HIX.out.under hbW)
          have HBW := hid hbW
          clear hW5 hWB hbW hb5 HROW5
          generalize W5 = w5d at *
          cases xa with
          | none =>
            obtain ⟨hs0', hc0', hls⟩ := HIX.out.none_nil
            subst hs0'
            subst hc0'
            go_wp2_with (at_builtin; refine wpList_append_own_none rfl _ _ 30 rfl w3.heap.size 3 i0 1 Try.underlying30 hi0 _ T.length (vals T) rfl HROWd.out rfl ?_)
            go_roundg (k - (i + 1))
            case measure => omega
            case rel => exact ⟨i + 1, by omega, Nat.le_refl _, by go_num, ⟨_, _, _, rfl⟩, by rw [HTN.out.1, HTN.out.2, hls]; simp only [vals, List.map_nil, List.append_nil, Nat.add_zero]; exact HROWd.out, HBW.out⟩
          | some ad =>
            have HNW : Hid (∀ j u, (vals ls)[j]? = some u → w5d.cell? (ad.add j) = some u) := HIX5.out.vcells.2
            have hbz := HBW.out.size
            go_wp2_with (at_builtin; go_loud (refine wpList_append_own_at _ rfl _ _ 30 rfl w3.heap.size 3 i0 _ 1 8 Try.underlying30 hi0 hz0 hz1 hz2 rfl (by decide) _ T.length (vals T) rfl HROWd.out ad si xc (vals ls) rfl HLn.out HNW.out HON.out (by first | omega | (unfold maxLen; omega)) (by omega) (by first | omega | (simp; omega)) ?_); intro v6 w6 hown6 hg6 _ _; obtain ⟨a6, n6, c6, rfl⟩ := own_shape hown6; have HW6 := hid hown6; have HB6 := hid (HBW.out.grown hg6 (by first | exact HBW.out.size | simpa using HBW.out.size) (fun j hj => (World.ownsRow.lt HROWd.out j hj).1)); clear hown6 hg6)
            go_roundg (k - (i + 1))
            case measure => omega
            case rel => exact ⟨i + 1, by omega, Nat.le_refl _, by go_num, ⟨_, _, _, rfl⟩, by rw [HTN.out.1, HTN.out.2]; exact HW6.out, HB6.out⟩
        · have hik : i = k := by omega
          subst hik
          have hlt' : ¬ (i : Int) < (i : Int) := by omega
          have HBE := hid (HB2.out.trans (HB3.out.mono HB2.out.size))
          by_cases hk0 : i = 0
          · subst hk0
            go_wp2_with fail
            go_ret
            exact ⟨rfl, HBE.out.trans (HI.out.2.mono HBE.out.size)⟩
          · have hk0' : ((i : Int) == 0) = false := by simp; omega
            have HTL : Hid (l.take (fromN l.length i i) = l) := by show _ = _; rw [HFA.out (by omega), List.take_length]
            have hr := HI.out.1
            rw [HTL.out] at hr
            have hlen8 : n8 = l.length := by
              obtain ⟨oa, cap, e, _⟩ := row_shape (row_base hr)
              cases e; rfl
            subst hlen8
            have HSS := hid (sameList_any (IL.of hr HL.out.ok HL.out.few) (HLW3.out.under HI.out.2))
            rw [show decide (l = l) = true by simp] at HSS
            clear hr
            go_wp2_with (go_at_call 17; refine HSS.out.mono ?_; rintro e w7 ⟨rfl, hb7⟩; have HB7 := hid hb7; clear hb7)
            go_ret
            exact ⟨rfl, (HBE.out.trans (HI.out.2.mono HBE.out.size)).trans (HB7.out.mono (Nat.le_trans HBE.out.size HI.out.2.size))⟩
    · have hk' : ¬ (200 : Int) < (ms.length : Int) := by omega
      have hn' : (2000 : Int) < (l.length : Int) := by omega
      go_enter Try.func4, Try.ntmps4
      go_wp2_with fail
      refine HSH.out.mono ?_
      rintro e W1 ⟨rfl, hbs⟩
      go_wp2_with fail
      go_ret
      exact ⟨rfl, hbs⟩
  · have hk' : (200 : Int) < (ms.length : Int) := by omega
    go_enter Try.func4, Try.ntmps4
    go_wp2_with fail
    refine HSH.out.mono ?_
    rintro e W1 ⟨rfl, hbs⟩
    go_wp2_with fail
    go_ret
    exact ⟨rfl, hbs⟩
end Go.Proofs.Ytdnpbhijjmlecaa

/- The document's groups: one group, purely and in memory; has, Offset, number. -/
namespace Go.Proofs.Ytdnpbhijjmlecaa
open Go.RowKit Go.Maps
set_option maxRecDepth 100000
set_option linter.unusedSimpArgs false
set_option linter.unusedVariables false

/-- The document's group: offsets and numbers are pairs, in rows. -/
structure Dg where
  gen : Int
  ever : Int
  mem : List Int
  parts : List Int
  offs : List Mb
  nums : List Mb
def firstK (l : List Mb) (p : Int) : Int := ((l.find? (fun m => m.id == p)).map (·.num)).getD (-1)
def lastK (n : Int) : List Mb → Int → Int
  | [], _ => n
  | m :: r, p => lastK (if m.id = p then m.num else n) r p
/-- A group in memory. -/
structure DgR (w : World) (b : Nat) (n : ByteArray) (vm vp vo vn : Value) (d : Dg) : Prop where
  cells : w.heap[b]? = some (.cells #[.string n, .int .i64 d.gen, .int .i64 d.ever, vm, vp, vo, vn] 61)
  mem : w.ownsRow 0 3 1 vm d.mem.length (vals d.mem)
  m64 : ∀ x ∈ d.mem, I64 x
  few : d.mem.length ≤ 1000
  parts : IL w vp d.parts
  offs : w.ownsRow 0 65 2 vo d.offs.length (flatM d.offs)
  nums : w.ownsRow 0 65 2 vn d.nums.length (flatM d.nums)
  o64 : ∀ m ∈ d.offs, I64 m.id ∧ I64 m.num
  n64 : ∀ m ∈ d.nums, I64 m.id ∧ I64 m.num
section
variable {w : World} {b : Nat} {n : ByteArray} {vm vp vo vn : Value} {d : Dg}
theorem DgR.under {w1 : World} (h : DgR w b n vm vp vo vn d) (hb : Below w.heap.size w w1) : DgR w1 b n vm vp vo vn d :=
  ⟨(hb.block b (Array.getElem?_eq_some_iff.1 h.cells).1).trans h.cells, row_kept h.mem (fun k hk => hb.block k (row_lt h.mem hk)), h.m64, h.few, h.parts.under hb, row_kept h.offs (fun k hk => hb.block k (row_lt h.offs hk)), row_kept h.nums (fun k hk => hb.block k (row_lt h.nums hk)), h.o64, h.n64⟩
theorem DgR.lt (h : DgR w b n vm vp vo vn d) : b < w.heap.size := (Array.getElem?_eq_some_iff.1 h.cells).1
theorem DgR.c0 (h : DgR w b n vm vp vo vn d) : w.cell? ⟨b, 0, none⟩ = some (.string n) := cell_blk h.cells 0 _ rfl
theorem DgR.c1 (h : DgR w b n vm vp vo vn d) : w.cell? ⟨b, 1, none⟩ = some (.int .i64 d.gen) := cell_blk h.cells 1 _ rfl
theorem DgR.c2 (h : DgR w b n vm vp vo vn d) : w.cell? ⟨b, 2, none⟩ = some (.int .i64 d.ever) := cell_blk h.cells 2 _ rfl
theorem DgR.c3 (h : DgR w b n vm vp vo vn d) : w.cell? ⟨b, 3, none⟩ = some vm := cell_blk h.cells 3 _ rfl
theorem DgR.c4 (h : DgR w b n vm vp vo vn d) : w.cell? ⟨b, 4, none⟩ = some vp := cell_blk h.cells 4 _ rfl
theorem DgR.c5 (h : DgR w b n vm vp vo vn d) : w.cell? ⟨b, 5, none⟩ = some vo := cell_blk h.cells 5 _ rfl
theorem DgR.c6 (h : DgR w b n vm vp vo vn d) : w.cell? ⟨b, 6, none⟩ = some vn := cell_blk h.cells 6 _ rfl
theorem DgR.fz (h : DgR w b n vm vp vo vn d) (j : Nat) : w.frozen? ⟨b, j, none⟩ = false := frz_blk h.cells j
theorem DgR.il (h : DgR w b n vm vp vo vn d) : IL w vm d.mem := IL.of h.mem h.m64 (by have := h.few; omega)
end
theorem row_kept2 {w : World} {g n cap : Nat} {ms : List Mb} (h : w.ownsRow 0 65 2 (.slice (some ⟨g, 0, none⟩) n cap) ms.length (flatM ms)) (i : Nat) (x : Mb) (hx : ms[i]? = some x) : w.cell? ⟨g, i * 2, none⟩ = some (.int .i64 x.id) ∧ w.cell? ⟨g, i * 2 + 1, none⟩ = some (.int .i64 x.num) := by
  have hc := fun j u hu => World.ownsRow.cells h (g := g) rfl j u hu
  obtain ⟨h0, h1⟩ := flatM_get ms i x hx
  have k0 := hc _ _ h0
  have k1 := hc _ _ h1
  rw [add_at, Nat.zero_add] at k0 k1
  exact ⟨k0, k1⟩
theorem firstK_at {l : List Mb} {p : Int} {k : Nat} (h : ∀ m ∈ l.take k, m.id ≠ p) (hk : k < l.length) (e : l[k].id = p) : firstK l p = l[k].num := by
  unfold firstK
  have : l.find? (fun m => m.id == p) = some l[k] := by
    rw [List.find?_eq_some_iff_append]
    refine ⟨by simpa using e, l.take k, l.drop (k + 1), ?_, fun m hm => by simpa using h m hm⟩
    have := List.take_append_drop k l
    rw [List.drop_eq_getElem_cons hk] at this
    exact this.symm
  rw [this]; rfl
theorem firstK_none {l : List Mb} {p : Int} (h : ∀ m ∈ l, m.id ≠ p) : firstK l p = -1 := by
  unfold firstK
  have : l.find? (fun m => m.id == p) = none := by rw [List.find?_eq_none]; intro m hm; simpa using h m hm
  rw [this]; rfl
theorem lastK_snoc (n : Int) (m : Mb) (p : Int) : ∀ l : List Mb, lastK n (l ++ [m]) p = if m.id = p then m.num else lastK n l p
  | [] => rfl
  | x :: r => lastK_snoc _ m p r
theorem lastK_take (n p : Int) (l : List Mb) (k : Nat) (hk : k < l.length) : lastK n (l.take (k + 1)) p = if l[k].id = p then l[k].num else lastK n (l.take k) p := by
  rw [List.take_succ_eq_append_getElem hk, lastK_snoc]

theorem IL.cellAt {w : World} {a : Option Addr} {n c : Nat} {l : List Int} (h : IL w (.slice a n c) l) (k : Nat) (hk : k < l.length) : ∃ b o, a = some ⟨b, o, none⟩ ∧ w.cell? ⟨b, o + k, none⟩ = some (.int .i64 l[k]) := by
  obtain ⟨⟨a', c', e', _, _, _, hat⟩, _⟩ := h
  simp only [Value.slice.injEq] at e'
  obtain ⟨b, o, e2, _, hc⟩ := hat (by intro e; rw [e] at hk; simp at hk)
  exact ⟨b, o, e'.1.trans e2, hc k hk⟩
theorem IL.cellAt' {w : World} {b o n c : Nat} {l : List Int} (h : IL w (.slice (some ⟨b, o, none⟩) n c) l) (k : Nat) {x : Int} (hx : l[k]? = some x) : w.cell? ⟨b, o + k, none⟩ = some (.int .i64 x) := by
  obtain ⟨hk, rfl⟩ := List.getElem?_eq_some_iff.1 hx
  obtain ⟨b', o', e, hc⟩ := h.cellAt k hk
  cases e
  exact hc
set_option maxHeartbeats 1600000 in
theorem rhas_any {w : World} {v : Value} {l : List Int} (h : IL w v l) (x : Int) : Calls Try.prog 28 #[v, .int .i64 x] w fun e w' => e = .returned (.bool (hasB l x)) ∧ w = w' := by
  have HI := hid h
  obtain ⟨⟨a, cap, rfl, hcap, hcm, hnn, hat⟩, hok, hfew⟩ := h
  have HA := hid hat
  clear hat hok hnn hcap hcm
  obtain ⟨B, hB⟩ : ∃ B, hasB l x = B := ⟨_, rfl⟩
  have HB := hid hB
  rw [hB]
  clear hB
  go_enter Try.func28, Try.ntmps28
  go_wp2_with fail
  go_loopg [5] l.length (fun kx s5 wr => ∃ k : Nat, k ≤ l.length ∧ l.length - k ≤ kx ∧ s5 = .int .i64 (k : Int) ∧ Hid (x ∉ l.take k) ∧ wr = w)
  case atStart => exact ⟨0, Nat.zero_le _, by omega, rfl, by show _ ∉ _; simp, rfl⟩
  case round =>
    obtain ⟨k, hk, hkx, rfl, HM, rfl⟩ := hrel
    by_cases hlt : k < l.length
    · obtain ⟨b, off, rfl, hb, hc⟩ := HA.out (by intro e; rw [e] at hlt; simp at hlt)
      have hck := hc k hlt
      have HT : Hid (l.take (k + 1) = l.take k ++ [l[k]]) := List.take_succ_eq_append_getElem hlt
      have HG : Hid (l[k] ∈ l) := by show _ ∈ _; simp
      have hlt' : (k : Int) < (l.length : Int) := by omega
      clear hc
      by_cases he : l[k] = x
      · have hbt : B = true := by rw [← HB.out, hasB_iff, ← he]; exact HG.out
        subst hbt
        have HE := hid he
        clear he
        rw [HE.out] at hck
        go_wp2_with fail
        go_ret
        exact ⟨rfl, rfl⟩
      · generalize l[k] = y at *
        have hyb : (y == x) = false := by simpa using he
        go_wp2_with fail
        go_roundg (l.length - (k + 1))
        case measure => omega
        case rel => exact ⟨k + 1, by omega, Nat.le_refl _, by go_num, by show _ ∉ _; rw [HT.out]; simp; exact ⟨HM.out, fun e => he e.symm⟩, rfl⟩
    · have hlt' : ¬ (k : Int) < (l.length : Int) := by omega
      have HN := HM.out
      rw [List.take_of_length_le (by omega)] at HN
      have hbf : B = false := by rw [← HB.out, hasB_not]; exact HN
      subst hbf
      go_wp2_with fail
      go_ret
      exact ⟨rfl, rfl⟩
end Go.Proofs.Ytdnpbhijjmlecaa

/- The document's groups in memory: a row of pointers; Find. -/
namespace Go.Proofs.Ytdnpbhijjmlecaa
open Go.RowKit Go.Maps
set_option maxRecDepth 100000
set_option linter.unusedSimpArgs false
set_option linter.unusedVariables false

theorem str_eq {a b : ByteArray} : a.toList = b.toList ↔ a = b := by
  constructor
  · intro e
    rw [ByteArray.toList_eq, ByteArray.toList_eq] at e
    obtain ⟨s⟩ := a
    obtain ⟨t⟩ := b
    have h2 : s.toList = t.toList := e
    rw [Array.toList_inj.1 h2]
  · rintro rfl; rfl
/-- An entry of the row: where the group lies. -/
structure Ent where
  b : Nat
  n : ByteArray
  vm : Value
  vp : Value
  vo : Value
  vn : Value
  d : Dg
def DEnt (w : World) (e : Ent) : Prop := DgR w e.b e.n e.vm e.vp e.vo e.vn e.d
def ptrs (es : List Ent) : List Value := es.map fun e => .pointer (some ⟨e.b, 0, none⟩)
structure DC (w : World) (r : Nat) (vl : Value) (es : List Ent) (ep : Int) : Prop where
  cells : w.heap[r]? = some (.cells #[vl, .int .i64 ep] 29)
  row : w.ownsRow 0 57 1 vl es.length (ptrs es)
  each : ∀ e ∈ es, DEnt w e
theorem DC.under {w w1 : World} {r : Nat} {vl : Value} {es : List Ent} {ep : Int} (h : DC w r vl es ep) (hb : Below w.heap.size w w1) : DC w1 r vl es ep :=
  ⟨(hb.block r (Array.getElem?_eq_some_iff.1 h.cells).1).trans h.cells, row_kept h.row (fun k hk => hb.block k (row_lt h.row hk)), fun e he => (h.each e he).under hb⟩
theorem DC.c0 {w : World} {r : Nat} {vl : Value} {es : List Ent} {ep : Int} (h : DC w r vl es ep) : w.cell? ⟨r, 0, none⟩ = some vl := cell_blk h.cells 0 _ rfl
theorem DC.c1 {w : World} {r : Nat} {vl : Value} {es : List Ent} {ep : Int} (h : DC w r vl es ep) : w.cell? ⟨r, 1, none⟩ = some (.int .i64 ep) := cell_blk h.cells 1 _ rfl
theorem DC.at {w : World} {r : Nat} {a : Option Addr} {m c : Nat} {es : List Ent} {ep : Int} (h : DC w r (.slice a m c) es ep) (k : Nat) (hk : k < es.length) : ∃ g, a = some ⟨g, 0, none⟩ ∧ w.cell? ⟨g, k, none⟩ = some (.pointer (some ⟨es[k].b, 0, none⟩)) := by
  obtain ⟨oa, cap, e, _, _, _, hat⟩ := row_shape h.row
  obtain ⟨g, rfl⟩ := hat (by omega)
  cases e
  have hc := World.ownsRow.cells h.row (g := g) rfl k (.pointer (some ⟨es[k].b, 0, none⟩)) (by simp [ptrs, hk])
  rw [add_at, Nat.zero_add] at hc
  exact ⟨g, rfl, hc⟩
/-- The entry of a name. -/
def findX (es : List Ent) (n : ByteArray) : Option Ent := es.find? fun e => decide (e.n = n)
def findV : Option Ent → Value
  | some e => .pointer (some ⟨e.b, 0, none⟩)
  | none => .pointer none
theorem findX_at {es : List Ent} {n : ByteArray} {k : Nat} (h : ∀ e ∈ es.take k, e.n ≠ n) (hk : k < es.length) (e : es[k].n = n) : findX es n = some es[k] := by
  unfold findX
  rw [List.find?_eq_some_iff_append]
  refine ⟨by simpa using e, es.take k, es.drop (k + 1), ?_, fun m hm => by simpa using h m hm⟩
  have := List.take_append_drop k es
  rw [List.drop_eq_getElem_cons hk] at this
  exact this.symm
theorem findX_none {es : List Ent} {n : ByteArray} (h : ∀ e ∈ es, e.n ≠ n) : findX es n = none := by
  unfold findX
  rw [List.find?_eq_none]; intro m hm; simpa using h m hm
set_option maxHeartbeats 1600000 in
theorem rfind_any {w : World} {r : Nat} {vl : Value} {es : List Ent} {ep : Int} (h : DC w r vl es ep) (hf : es.length ≤ 1000) (n : ByteArray) : Calls Try.prog 26 #[.pointer (some ⟨r, 0, none⟩), .string n] w fun e w' => e = .returned (findV (findX es n)) ∧ w = w' := by
  have HI := hid h
  have k0 := h.c0
  obtain ⟨la, lc, rfl, _⟩ := row_shape h.row
  clear h
  obtain ⟨R, hR⟩ : ∃ R, R = findV (findX es n) := ⟨_, rfl⟩
  have HR := hid hR
  rw [← hR]
  clear hR
  go_enter Try.func26, Try.ntmps26
  go_wp2_with fail
  go_loopg [5] es.length (fun kx s5 wr => ∃ k : Nat, k ≤ es.length ∧ es.length - k ≤ kx ∧ s5 = .int .i64 (k : Int) ∧ Hid (∀ e ∈ es.take k, e.n ≠ n) ∧ wr = w)
  case atStart => exact ⟨0, Nat.zero_le _, by omega, rfl, by show ∀ m ∈ _, _; simp, rfl⟩
  case round =>
    obtain ⟨k, hk, hkx, rfl, HM, rfl⟩ := hrel
    by_cases hlt : k < es.length
    · have hlt' : (k : Int) < (es.length : Int) := by omega
      obtain ⟨g, rfl, hc⟩ := HI.out.at k hlt
      have c0 := (HI.out.each es[k] (by simp)).c0
      have HT : Hid (es.take (k + 1) = es.take k ++ [es[k]]) := List.take_succ_eq_append_getElem hlt
      have HE : Hid (es[k].n = n → R = .pointer (some ⟨es[k].b, 0, none⟩)) := fun e => HR.out.trans (by rw [findX_at HM.out hlt e]; rfl)
      generalize es[k] = x at *
      by_cases he : x.n = n
      · have heb : (x.n.toList == n.toList) = true := by rw [he]; simp
        have hel : x.n.toList = n.toList := by rw [he]
        have HX := hid (HE.out he)
        clear HE he
        go_wp2_with fail
        go_ret
        exact ⟨congrArg Ending.returned HX.out.symm, rfl⟩
      · have HN := hid he
        have hel : ¬ x.n.toList = n.toList := fun e => he (str_eq.1 e)
        have heb : (x.n.toList == n.toList) = false := by simpa using hel
        go_wp2_with fail
        go_roundg (es.length - (k + 1))
        case measure => omega
        case rel => exact ⟨k + 1, by omega, Nat.le_refl _, by go_num, by
          show ∀ m ∈ _, _
          rw [HT.out]
          intro y hy
          rcases List.mem_append.1 hy with hy | hy
          · exact HM.out y hy
          · obtain rfl := List.mem_singleton.1 hy; exact HN.out, rfl⟩
    · have hlt' : ¬ (k : Int) < (es.length : Int) := by omega
      have HN := HM.out
      rw [List.take_of_length_le (by omega)] at HN
      have HX : Hid (R = .pointer none) := HR.out.trans (by rw [findX_none HN]; rfl)
      clear HN
      go_wp2_with fail
      go_ret
      exact ⟨congrArg Ending.returned HX.out.symm, rfl⟩
end Go.Proofs.Ytdnpbhijjmlecaa

