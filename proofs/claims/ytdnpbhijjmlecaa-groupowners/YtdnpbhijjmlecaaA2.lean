/- The document's Assign: the walk. -/
import Derived.Test.YtdnpbhijjmlecaaA1
import Derived.Deep.CutRange
import Derived.Deep.CutBlock
namespace Go.Proofs.Ytdnpbhijjmlecaa
open Go.RowKit Go.Maps
set_option maxRecDepth 100000
set_option linter.unusedSimpArgs false
set_option linter.unusedVariables false

theorem row_new (w : World) : (w.alloc (.cells #[] 3)).ownsRow w.heap.size 3 1 (.slice (some ⟨w.heap.size, 0, none⟩) 0 0) 0 [] := ⟨rfl, .inr ⟨w.heap.size, 0, #[], rfl, Nat.le_refl _, heap_alloc_new _ _, Nat.le_refl _, Nat.zero_le _, rfl, rfl⟩⟩
set_option maxHeartbeats 6400000 in
theorem rassign_any {w : World} {v u : Value} {ms l : List Int} (hm : IL w v ms) (hl : IL w u l) (hk : ms.length ≤ 1000) : Calls Try.prog 16 #[v, u] w fun e w' => ∃ v', e = .returned v' ∧ RInv w w' v' l ms.length ms.length := by
  obtain ⟨i0, hi0, hz0, hz1, hz2⟩ := info3
  obtain ⟨i1, hj0, hj1, hj2, hj3⟩ := info30
  have HL := hid hl
  obtain ⟨a, cap, rfl, hcap, hcm, hnn⟩ : ∃ a cap, u = .slice a l.length cap ∧ l.length ≤ cap ∧ cap ≤ maxLen ∧ (a = none → cap = 0) := by obtain ⟨⟨a, cap, e, h1, h2, h3, _⟩, _⟩ := hl; exact ⟨a, cap, e, h1, h2, h3⟩
  obtain ⟨ma, mcap, rfl⟩ : ∃ ma mcap, v = .slice ma ms.length mcap := by obtain ⟨⟨a, cap, e, _⟩, _⟩ := hm; exact ⟨a, cap, e⟩
  have hfew := hl.few
  clear hl hm
  have HNN := hid hnn
  clear hnn
  generalize ms.length = k at *
  obtain ⟨n, hn⟩ : ∃ n, n = l.length := ⟨_, rfl⟩
  have HN := hid hn
  rw [← hn] at hcap hfew ⊢
  clear hn
  have hml : n ≤ maxLen := by omega
  go_enter Try.func16, Try.ntmps16
  go_wp2_with fail
  go_loopg [5, 6, 7, 8] k (fun kx s5 s6 s7 s8 wr => ∃ i : Nat, i ≤ k ∧ k - i ≤ kx ∧ s7 = .int .i64 (i : Int) ∧ s6 = .int .i64 (fromN n k i : Int) ∧ (∃ a n c, s5 = .slice a n c) ∧ Hid (RInv w wr s5 l k i))
  case atStart => exact ⟨0, Nat.zero_le _, by omega, rfl, rfl, ⟨_, _, _, rfl⟩, RInv.start w l k⟩
  case round =>
    obtain ⟨i, hi, hkx, rfl, rfl, ⟨ra, rn, rc, rfl⟩, HI⟩ := hrel
    by_cases hlt : i < k
    · have hlt' : (i : Int) < (k : Int) := by omega
      have hk0 : (k : Int) ≠ 0 := by omega
      have HF := hid (from_top n k i hlt)
      have HS1 := hid (show fromN n k (i + 1) = fromN n k i + shareN n k i from rfl)
      have hsub := il_sub (HL.out.under HI.out.below) (fromN n k i) (shareN n k i) (by rw [← HN.out]; exact HF.out)
      have HSUB : Hid ((cap = fromN n k i → IL wr (.slice a (shareN n k i) 0) (shareL l k i)) ∧ IL wr (.slice (Option.map (fun x => x.add (fromN n k i)) a) (shareN n k i) (cap - fromN n k i)) (shareL l k i)) := by
        have e : shareL l k i = (l.drop (fromN n k i)).take (shareN n k i) := by unfold shareL; rw [← HN.out]
        rw [e]; exact hsub
      have HLEN : Hid ((shareL l k i).length = shareN n k i) := by show _ = _; rw [HN.out]; exact shareL_len l k i hlt
      have HNX : Hid (∀ x W v' w', Below wr.heap.size wr W → IL W x (shareL l k i) → In (fun b => wr.heap.size ≤ b) x (shareL l k i) → w'.ownsRow w.heap.size 30 1 v' (i + 1) ((Classical.choose HI.out) ++ [x]) → W.grownBy w' (Value.slice ra rn rc).ownBlock → (v'.ownBlock = (Value.slice ra rn rc).ownBlock ∨ v'.ownBlock = some W.heap.size) → RInv w w' v' l k (i + 1)) := fun x W v' w' h1 h2 h3 h4 h5 h6 => HI.out.next h1 h2 h3 h4 h5 h6
      have HROW : Hid (∀ W, Below wr.heap.size wr W → W.ownsRow w.heap.size 30 1 (.slice ra rn rc) i (Classical.choose HI.out)) := fun W hW => by
        obtain ⟨h1, h2 | ⟨g, cp, cur, e, hB, hg, r⟩⟩ := HI.out.row
        · exact ⟨h1, .inl h2⟩
        · exact ⟨h1, .inr ⟨g, cp, cur, e, hB, (hW.block g (Array.getElem?_eq_some_iff.1 hg).1).trans hg, r⟩⟩
      have hbsz := HI.out.below.size
      have hfb := HF.out
      generalize Classical.choose HI.out = DS at *
      generalize hff : fromN n k i = f at *
      clear hff hsub
      have HOK : Hid (∀ x ∈ shareL l k i, I64 x) := HSUB.out.2.ok
      generalize shareL l k i = ls at *
      have hd : (n : Int) / (k : Int) = ((n / k : Nat) : Int) := by simp
      by_cases hr : i < n % k
      · have hr' : (i : Int) < (n : Int) % (k : Int) := by omega
        have hs : shareN n k i = n / k + 1 := by unfold shareN; rw [if_pos hr]
        rw [hs] at hfb HSUB HS1 HLEN
        clear hs
        have hdb : n / k ≤ n := Nat.div_le_self _ _
        generalize n / k = d at *
        have hlsn : ls.length = d + 1 := HLEN.out
        have HLS := hid hlsn
        clear HF hlsn HLEN
        have hap : ∃ ad, a = some ad := by
          cases a with
          | none => exfalso; have := HNN.out rfl; omega
          | some ad => exact ⟨ad, rfl⟩
        obtain ⟨ad, rfl⟩ := hap
        have HIL : Hid (IL wr (.slice (some (ad.add f)) (d + 1) (cap - f)) ls) := HSUB.out.2
        have HB0 : Hid (Below wr.heap.size wr (wr.alloc (.cells #[] 3))) := (Below.refl _ _).alloc (Nat.le_refl _) _
        have HNW : Hid (∀ j u, (vals ls)[j]? = some u → (wr.alloc (.cells #[] 3)).cell? ((ad.add f).add j) = some u) := (HIL.out.under HB0.out).vcells.2
        have HRW0 := hid (row_new wr)
        have HON := hid (vals_one ls)
        have HLn : Hid ((vals ls).length = (f + (d + 1) - f) * 1) := by show _ = _; have := HLS.out; rw [vals_length]; omega
        have hlf : ls.length ≤ 17592186044415 := HIL.out.few
        have hmf : (f + (d + 1) - f) ≤ 17592186044415 := by have := HLS.out; omega
        have HOUT : Hid (∀ x2 w2, w2.ownsRow wr.heap.size 3 1 x2 (0 + (f + (d + 1) - f)) ([] ++ vals ls) → (wr.alloc (.cells #[] 3)).grownBy w2 (some wr.heap.size) → Below wr.heap.size wr w2 ∧ IL w2 x2 ls ∧ In (fun b => wr.heap.size ≤ b) x2 ls ∧ ∃ a n c, x2 = .slice a n c) := fun x2 w2 h1 h2 => by
          have e : ls.length = f + (d + 1) - f := by have := HLS.out; omega
          have h1' : w2.ownsRow wr.heap.size 3 1 x2 (0 + ls.length) ([] ++ vals ls) := by rw [e]; exact h1
          obtain ⟨g1, g2⟩ := fresh_list HOK.out hlf h1'
          exact ⟨HB0.out.grown h2 HB0.out.size (fun j hj => by cases hj; exact Nat.le_refl _), g1, g2, own_shape h1⟩
        have HFIN : Hid (∀ x2 w2, Below wr.heap.size wr w2 → IL w2 x2 ls → In (fun b => wr.heap.size ≤ b) x2 ls → (w2.alloc (.cells #[x2] 30)).ownsRow w.heap.size 30 1 (.slice ra rn rc) i DS ∧ (∀ j u, ([x2] : List Value)[j]? = some u → (w2.alloc (.cells #[x2] 30)).cell? ((⟨w2.heap.size, 0, none⟩ : Addr).add j) = some u) ∧ ∀ v' w', w'.ownsRow w.heap.size 30 1 v' (i + 1) (DS ++ [x2]) → (w2.alloc (.cells #[x2] 30)).grownBy w' (Value.slice ra rn rc).ownBlock → (v'.ownBlock = (Value.slice ra rn rc).ownBlock ∨ v'.ownBlock = some (w2.alloc (.cells #[x2] 30)).heap.size) → RInv w w' v' l k (i + 1)) := fun x2 w2 h1 h2 h3 => by
          have hb : Below w2.heap.size w2 (w2.alloc (.cells #[x2] 30)) := (Below.refl _ _).alloc (Nat.le_refl _) _
          refine ⟨HROW.out _ (h1.trans (hb.mono h1.size)), fun j u hu => ?_, fun v' w' g1 g2 g3 => HNX.out x2 _ v' w' (h1.trans (hb.mono h1.size)) (h2.under hb) h3 g1 g2 g3⟩
          rw [add_at, Nat.zero_add]
          exact cell_blk (heap_alloc_new w2 (.cells #[x2] 30)) j u (by simpa using hu)
        go_wp2_with (first | (at_builtin; refine wpList_append_own_at _ rfl _ _ 30 rfl wr.heap.size 3 i0 _ 1 8 Try.underlying30 hi0 hz0 hz1 hz2 rfl (by decide) _ 0 [] rfl HRW0.out (ad.add f) (f + (d + 1) - f) (cap - f) (vals ls) rfl HLn.out HNW.out HON.out (by unfold maxLen; omega) (by omega) (by simp) ?_; intro x2 w2 hown2 hg2 _ _; obtain ⟨o1, o2, o3, xa, xn, xc, rfl⟩ := HOUT.out x2 w2 hown2 hg2; obtain ⟨p1, p2, p3⟩ := HFIN.out _ _ o1 o2 o3; have HP1 := hid p1; have HP2 := hid p2; have HP3 := hid p3; have hbs2 := o1.size; clear hown2 hg2 o1 o2 o3 p1 p2 p3) | (at_builtin; go_loud (refine wpList_append_own_at _ rfl _ _ 42 rfl w.heap.size 30 i1 _ 1 24 Try.underlying42 hj0 hj1 hj2 hj3 rfl (by decide) _ i DS rfl HP1.out ⟨w2.heap.size, 0, none⟩ 1 1 _ rfl rfl HP2.out (fun u hu => by rw [List.mem_singleton] at hu; subst hu; rfl) (by first | omega | (unfold maxLen; omega)) (by omega) (by first | omega | (simp; omega)) ?_); intro v5 w5 hown5 hg5 _ hat5; obtain ⟨a5, n5, c5, rfl⟩ : ∃ a n c, v5 = .slice a n c := (by obtain ⟨oa, cp, e, _⟩ := row_shape (row_base hown5); exact ⟨_, _, _, e⟩); have HR5 := hid (HP3.out _ _ hown5 hg5 hat5); clear hown5 hg5 hat5) | fail)
        all_goals first | (exfalso; omega) | skip
        go_roundg (k - (i + 1))
        case measure => omega
        case rel => exact ⟨i + 1, by omega, Nat.le_refl _, by go_num, by rw [HS1.out]; go_num, ⟨_, _, _, rfl⟩, HR5.out⟩
      · have hr' : ¬ (i : Int) < (n : Int) % (k : Int) := by omega
        have hs : shareN n k i = n / k := by unfold shareN; rw [if_neg hr]; rfl
        rw [hs] at hfb HSUB HS1 HLEN
        clear hs
        have hdb : n / k ≤ n := Nat.div_le_self _ _
        generalize n / k = d at *
        have hlsn : ls.length = d := HLEN.out
        have HLS := hid hlsn
        clear HF hlsn HLEN
        cases a with
        | none =>
          have hc0 := HNN.out rfl
          have hd0 : d = 0 := by omega
          have hf0 : f = 0 := by omega
          have hn0 : n = 0 := by omega
          subst hd0 hf0 hn0 hc0
          have hd' : ((0 : Nat) : Int) / (k : Int) = 0 := by simp
          have hd2 : (0 : Int) / (k : Int) = 0 := by simp
          have hls : ls = [] := List.eq_nil_of_length_eq_zero HLS.out
          have HLE := hid hls
          clear hd hfb hls
          have HB0 : Hid (Below wr.heap.size wr (wr.alloc (.cells #[] 3))) := (Below.refl _ _).alloc (Nat.le_refl _) _
          have HRW0 := hid (row_new wr)
          have HFIN : Hid (∀ x2 w2, Below wr.heap.size wr w2 → IL w2 x2 ls → In (fun b => wr.heap.size ≤ b) x2 ls → (w2.alloc (.cells #[x2] 30)).ownsRow w.heap.size 30 1 (.slice ra rn rc) i DS ∧ (∀ j u, ([x2] : List Value)[j]? = some u → (w2.alloc (.cells #[x2] 30)).cell? ((⟨w2.heap.size, 0, none⟩ : Addr).add j) = some u) ∧ ∀ v' w', w'.ownsRow w.heap.size 30 1 v' (i + 1) (DS ++ [x2]) → (w2.alloc (.cells #[x2] 30)).grownBy w' (Value.slice ra rn rc).ownBlock → (v'.ownBlock = (Value.slice ra rn rc).ownBlock ∨ v'.ownBlock = some (w2.alloc (.cells #[x2] 30)).heap.size) → RInv w w' v' l k (i + 1)) := fun x2 w2 h1 h2 h3 => by
            have hb : Below w2.heap.size w2 (w2.alloc (.cells #[x2] 30)) := (Below.refl _ _).alloc (Nat.le_refl _) _
            refine ⟨HROW.out _ (h1.trans (hb.mono h1.size)), fun j u hu => ?_, fun v' w' g1 g2 g3 => HNX.out x2 _ v' w' (h1.trans (hb.mono h1.size)) (h2.under hb) h3 g1 g2 g3⟩
            rw [add_at, Nat.zero_add]
            exact cell_blk (heap_alloc_new w2 (.cells #[x2] 30)) j u (by simpa using hu)
          obtain ⟨p1, p2, p3⟩ := HFIN.out (.slice (some ⟨wr.heap.size, 0, none⟩) 0 0) _ HB0.out (by rw [HLE.out]; exact IL.of (row_new wr) (fun x hx => by cases hx) (by simp)) (by rw [HLE.out]; exact In.nil _ _)
          rw [show (wr.alloc (.cells #[] 3)).heap.size = wr.heap.size + 1 by simp] at p2
          have HP1 := hid p1
          have HP2 := hid p2
          have HP3 := hid p3
          clear p1 p2 p3
          have hbs2 : wr.heap.size ≤ (wr.alloc (.cells #[] 3)).heap.size := by simp
          go_wp2_with (first | (at_builtin; refine wpList_append_own_none rfl _ _ 30 rfl wr.heap.size 3 i0 1 Try.underlying30 hi0 _ 0 [] rfl HRW0.out rfl ?_) | (at_builtin; go_loud (refine wpList_append_own_at _ rfl _ _ 42 rfl w.heap.size 30 i1 _ 1 24 Try.underlying42 hj0 hj1 hj2 hj3 rfl (by decide) _ i DS rfl HP1.out ⟨wr.heap.size + 1, 0, none⟩ 1 1 [.slice (some ⟨wr.heap.size, 0, none⟩) 0 0] rfl rfl HP2.out (fun u hu => by rw [List.mem_singleton] at hu; subst hu; rfl) (by first | omega | (unfold maxLen; omega)) (by omega) (by first | omega | (simp; omega)) ?_); intro v5 w5 hown5 hg5 _ hat5; obtain ⟨a5, n5, c5, rfl⟩ : ∃ a n c, v5 = .slice a n c := (by obtain ⟨oa, cp, e, _⟩ := row_shape (row_base hown5); exact ⟨_, _, _, e⟩); have HR5 := hid (HP3.out _ _ hown5 hg5 hat5); clear hown5 hg5 hat5) | fail)
          all_goals first | (exfalso; omega) | skip
          go_roundg (k - (i + 1))
          case measure => omega
          case rel => exact ⟨i + 1, by omega, Nat.le_refl _, by go_num, by rw [HS1.out]; go_num, ⟨_, _, _, rfl⟩, HR5.out⟩
        | some ad =>
          by_cases hcf : cap = f
          · have hd0 : d = 0 := by omega
            subst hd0
            subst hcf
            have hd2 : (n : Int) / (k : Int) = 0 := by simpa using hd
            clear hd
            have HIL : Hid (IL wr (.slice (some (ad)) (0) (0)) ls) := HSUB.out.1 rfl
            have HB0 : Hid (Below wr.heap.size wr (wr.alloc (.cells #[] 3))) := (Below.refl _ _).alloc (Nat.le_refl _) _
            have HNW : Hid (∀ j u, (vals ls)[j]? = some u → (wr.alloc (.cells #[] 3)).cell? ((ad).add j) = some u) := (HIL.out.under HB0.out).vcells.2
            have HRW0 := hid (row_new wr)
            have HON := hid (vals_one ls)
            have HLn : Hid ((vals ls).length = (0) * 1) := by show _ = _; have := HLS.out; rw [vals_length]; omega
            have hlf : ls.length ≤ 17592186044415 := HIL.out.few
            have hmf : (0) ≤ 17592186044415 := by have := HLS.out; omega
            have HOUT : Hid (∀ x2 w2, w2.ownsRow wr.heap.size 3 1 x2 (0 + (0)) ([] ++ vals ls) → (wr.alloc (.cells #[] 3)).grownBy w2 (some wr.heap.size) → Below wr.heap.size wr w2 ∧ IL w2 x2 ls ∧ In (fun b => wr.heap.size ≤ b) x2 ls ∧ ∃ a n c, x2 = .slice a n c) := fun x2 w2 h1 h2 => by
              have e : ls.length = 0 := by have := HLS.out; omega
              have h1' : w2.ownsRow wr.heap.size 3 1 x2 (0 + ls.length) ([] ++ vals ls) := by rw [e]; exact h1
              obtain ⟨g1, g2⟩ := fresh_list HOK.out hlf h1'
              exact ⟨HB0.out.grown h2 HB0.out.size (fun j hj => by cases hj; exact Nat.le_refl _), g1, g2, own_shape h1⟩
            have HFIN : Hid (∀ x2 w2, Below wr.heap.size wr w2 → IL w2 x2 ls → In (fun b => wr.heap.size ≤ b) x2 ls → (w2.alloc (.cells #[x2] 30)).ownsRow w.heap.size 30 1 (.slice ra rn rc) i DS ∧ (∀ j u, ([x2] : List Value)[j]? = some u → (w2.alloc (.cells #[x2] 30)).cell? ((⟨w2.heap.size, 0, none⟩ : Addr).add j) = some u) ∧ ∀ v' w', w'.ownsRow w.heap.size 30 1 v' (i + 1) (DS ++ [x2]) → (w2.alloc (.cells #[x2] 30)).grownBy w' (Value.slice ra rn rc).ownBlock → (v'.ownBlock = (Value.slice ra rn rc).ownBlock ∨ v'.ownBlock = some (w2.alloc (.cells #[x2] 30)).heap.size) → RInv w w' v' l k (i + 1)) := fun x2 w2 h1 h2 h3 => by
              have hb : Below w2.heap.size w2 (w2.alloc (.cells #[x2] 30)) := (Below.refl _ _).alloc (Nat.le_refl _) _
              refine ⟨HROW.out _ (h1.trans (hb.mono h1.size)), fun j u hu => ?_, fun v' w' g1 g2 g3 => HNX.out x2 _ v' w' (h1.trans (hb.mono h1.size)) (h2.under hb) h3 g1 g2 g3⟩
              rw [add_at, Nat.zero_add]
              exact cell_blk (heap_alloc_new w2 (.cells #[x2] 30)) j u (by simpa using hu)
            go_wp2_with (first | (at_builtin; refine wpList_append_own_at _ rfl _ _ 30 rfl wr.heap.size 3 i0 _ 1 8 Try.underlying30 hi0 hz0 hz1 hz2 rfl (by decide) _ 0 [] rfl HRW0.out (ad) (0) (0) (vals ls) rfl HLn.out HNW.out HON.out (by unfold maxLen; omega) (by omega) (by simp) ?_; intro x2 w2 hown2 hg2 _ _; obtain ⟨o1, o2, o3, xa, xn, xc, rfl⟩ := HOUT.out x2 w2 hown2 hg2; obtain ⟨p1, p2, p3⟩ := HFIN.out _ _ o1 o2 o3; have HP1 := hid p1; have HP2 := hid p2; have HP3 := hid p3; have hbs2 := o1.size; clear hown2 hg2 o1 o2 o3 p1 p2 p3) | (at_builtin; go_loud (refine wpList_append_own_at _ rfl _ _ 42 rfl w.heap.size 30 i1 _ 1 24 Try.underlying42 hj0 hj1 hj2 hj3 rfl (by decide) _ i DS rfl HP1.out ⟨w2.heap.size, 0, none⟩ 1 1 _ rfl rfl HP2.out (fun u hu => by rw [List.mem_singleton] at hu; subst hu; rfl) (by first | omega | (unfold maxLen; omega)) (by omega) (by first | omega | (simp; omega)) ?_); intro v5 w5 hown5 hg5 _ hat5; obtain ⟨a5, n5, c5, rfl⟩ : ∃ a n c, v5 = .slice a n c := (by obtain ⟨oa, cp, e, _⟩ := row_shape (row_base hown5); exact ⟨_, _, _, e⟩); have HR5 := hid (HP3.out _ _ hown5 hg5 hat5); clear hown5 hg5 hat5) | fail)
            all_goals first | (exfalso; omega) | skip
            go_roundg (k - (i + 1))
            case measure => omega
            case rel => exact ⟨i + 1, by omega, Nat.le_refl _, by go_num, by rw [HS1.out]; go_num, ⟨_, _, _, rfl⟩, HR5.out⟩
          · skip
            have HIL : Hid (IL wr (.slice (some (ad.add f)) (d) (cap - f)) ls) := HSUB.out.2
            have HB0 : Hid (Below wr.heap.size wr (wr.alloc (.cells #[] 3))) := (Below.refl _ _).alloc (Nat.le_refl _) _
            have HNW : Hid (∀ j u, (vals ls)[j]? = some u → (wr.alloc (.cells #[] 3)).cell? ((ad.add f).add j) = some u) := (HIL.out.under HB0.out).vcells.2
            have HRW0 := hid (row_new wr)
            have HON := hid (vals_one ls)
            have HLn : Hid ((vals ls).length = (f + d - f) * 1) := by show _ = _; have := HLS.out; rw [vals_length]; omega
            have hlf : ls.length ≤ 17592186044415 := HIL.out.few
            have hmf : (f + d - f) ≤ 17592186044415 := by have := HLS.out; omega
            have HOUT : Hid (∀ x2 w2, w2.ownsRow wr.heap.size 3 1 x2 (0 + (f + d - f)) ([] ++ vals ls) → (wr.alloc (.cells #[] 3)).grownBy w2 (some wr.heap.size) → Below wr.heap.size wr w2 ∧ IL w2 x2 ls ∧ In (fun b => wr.heap.size ≤ b) x2 ls ∧ ∃ a n c, x2 = .slice a n c) := fun x2 w2 h1 h2 => by
              have e : ls.length = f + d - f := by have := HLS.out; omega
              have h1' : w2.ownsRow wr.heap.size 3 1 x2 (0 + ls.length) ([] ++ vals ls) := by rw [e]; exact h1
              obtain ⟨g1, g2⟩ := fresh_list HOK.out hlf h1'
              exact ⟨HB0.out.grown h2 HB0.out.size (fun j hj => by cases hj; exact Nat.le_refl _), g1, g2, own_shape h1⟩
            have HFIN : Hid (∀ x2 w2, Below wr.heap.size wr w2 → IL w2 x2 ls → In (fun b => wr.heap.size ≤ b) x2 ls → (w2.alloc (.cells #[x2] 30)).ownsRow w.heap.size 30 1 (.slice ra rn rc) i DS ∧ (∀ j u, ([x2] : List Value)[j]? = some u → (w2.alloc (.cells #[x2] 30)).cell? ((⟨w2.heap.size, 0, none⟩ : Addr).add j) = some u) ∧ ∀ v' w', w'.ownsRow w.heap.size 30 1 v' (i + 1) (DS ++ [x2]) → (w2.alloc (.cells #[x2] 30)).grownBy w' (Value.slice ra rn rc).ownBlock → (v'.ownBlock = (Value.slice ra rn rc).ownBlock ∨ v'.ownBlock = some (w2.alloc (.cells #[x2] 30)).heap.size) → RInv w w' v' l k (i + 1)) := fun x2 w2 h1 h2 h3 => by
              have hb : Below w2.heap.size w2 (w2.alloc (.cells #[x2] 30)) := (Below.refl _ _).alloc (Nat.le_refl _) _
              refine ⟨HROW.out _ (h1.trans (hb.mono h1.size)), fun j u hu => ?_, fun v' w' g1 g2 g3 => HNX.out x2 _ v' w' (h1.trans (hb.mono h1.size)) (h2.under hb) h3 g1 g2 g3⟩
              rw [add_at, Nat.zero_add]
              exact cell_blk (heap_alloc_new w2 (.cells #[x2] 30)) j u (by simpa using hu)
            go_wp2_with (first | (at_builtin; refine wpList_append_own_at _ rfl _ _ 30 rfl wr.heap.size 3 i0 _ 1 8 Try.underlying30 hi0 hz0 hz1 hz2 rfl (by decide) _ 0 [] rfl HRW0.out (ad.add f) (f + d - f) (cap - f) (vals ls) rfl HLn.out HNW.out HON.out (by unfold maxLen; omega) (by omega) (by simp) ?_; intro x2 w2 hown2 hg2 _ _; obtain ⟨o1, o2, o3, xa, xn, xc, rfl⟩ := HOUT.out x2 w2 hown2 hg2; obtain ⟨p1, p2, p3⟩ := HFIN.out _ _ o1 o2 o3; have HP1 := hid p1; have HP2 := hid p2; have HP3 := hid p3; have hbs2 := o1.size; clear hown2 hg2 o1 o2 o3 p1 p2 p3) | (at_builtin; go_loud (refine wpList_append_own_at _ rfl _ _ 42 rfl w.heap.size 30 i1 _ 1 24 Try.underlying42 hj0 hj1 hj2 hj3 rfl (by decide) _ i DS rfl HP1.out ⟨w2.heap.size, 0, none⟩ 1 1 _ rfl rfl HP2.out (fun u hu => by rw [List.mem_singleton] at hu; subst hu; rfl) (by first | omega | (unfold maxLen; omega)) (by omega) (by first | omega | (simp; omega)) ?_); intro v5 w5 hown5 hg5 _ hat5; obtain ⟨a5, n5, c5, rfl⟩ : ∃ a n c, v5 = .slice a n c := (by obtain ⟨oa, cp, e, _⟩ := row_shape (row_base hown5); exact ⟨_, _, _, e⟩); have HR5 := hid (HP3.out _ _ hown5 hg5 hat5); clear hown5 hg5 hat5) | fail)
            all_goals first | (exfalso; omega) | skip
            go_roundg (k - (i + 1))
            case measure => omega
            case rel => exact ⟨i + 1, by omega, Nat.le_refl _, by go_num, by rw [HS1.out]; go_num, ⟨_, _, _, rfl⟩, HR5.out⟩
    · have hik : i = k := by omega
      subst hik
      have hlt' : ¬ (i : Int) < (i : Int) := by omega
      go_wp2_with fail
      go_ret
      exact ⟨_, rfl, HI.out⟩
end Go.Proofs.Ytdnpbhijjmlecaa
