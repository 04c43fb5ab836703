/- The ids of a topic; a new partition. -/
import Derived.Test.YtcffomhcmilcpaaGreatA3
import Derived.Test.YtcffomhcmilcpaaGreatA1b
namespace Go.Proofs.YtcffomhcmilcpaaGreat
open Go.RowKit Go.Maps
set_option maxRecDepth 100000
set_option linter.unusedSimpArgs false
set_option linter.unusedVariables false

set_option maxHeartbeats 1600000 in
theorem tids_any (s : ByteArray) (first : Int) (n : Nat) (w : World) (hf : 0 ≤ first ∧ first ≤ 1000) (hn : n ≤ 100) : Calls Tryz.prog 66 #[.agg #[.string s, .int .i64 first, .int .i64 (n : Int)]] w fun e w' => ∃ v', e = .returned v' ∧ IL w' v' ((List.range n).map fun (i : Nat) => first + (i : Int)) ∧ In (fun b => w.heap.size ≤ b) v' ((List.range n).map fun (i : Nat) => first + (i : Int)) ∧ Below w.heap.size w w' := by
  have HMK := hid (fun w => make23 (fun i => first + (i : Int)) w n (by omega))
  have hmk := HMK.out (w.alloc (.cells #[.string s, .int .i64 first, .int .i64 (n : Int)] 96))
  go_enter Tryz.func66, Tryz.ntmps66
  go_wp2_with fail
  have hz : (w.alloc (.cells #[.string s, .int .i64 first, .int .i64 (n : Int)] 96)).heap.size = w.heap.size + 1 := by simp
  have HB0 := hid (heap_alloc_new (w.alloc (.cells #[.string s, .int .i64 first, .int .i64 (n : Int)] 96)) (.cells (fillA (fun i => first + (i : Int)) 0 n) 3))
  rw [hz] at HB0
  have HX0 : Hid (((w.alloc (.cells #[.string s, .int .i64 first, .int .i64 (n : Int)] 96)).alloc (.cells (fillA (fun i => first + (i : Int)) 0 n) 3)).heap[w.heap.size]? = some (.cells #[.string s, .int .i64 first, .int .i64 (n : Int)] 96)) := by
    show _ = _
    rw [Below.heap_alloc _ _ _ (by simp)]; exact heap_alloc_new _ _
  have HW0 : Hid (Below w.heap.size w ((w.alloc (.cells #[.string s, .int .i64 first, .int .i64 (n : Int)] 96)).alloc (.cells (fillA (fun i => first + (i : Int)) 0 n) 3))) := ((Below.refl _ _).alloc (Nat.le_refl _) _).alloc (by simp) _
  clear hmk HMK
  try rw [hz]
  generalize (w.alloc (.cells #[.string s, .int .i64 first, .int .i64 (n : Int)] 96)).alloc (.cells (fillA (fun i => first + (i : Int)) 0 n) 3) = W0 at *
  clear hz
  obtain ⟨x, hx⟩ : ∃ x, x = w.heap.size := ⟨_, rfl⟩
  rw [← hx] at HB0 HX0 HW0 ⊢
  go_loopg [10] n (fun kx s10 wr => ∃ k : Nat, k ≤ n ∧ n - k ≤ kx ∧ s10 = .int .i64 (k : Int) ∧ Hid (wr.heap[x + 1]? = some (.cells (fillA (fun i => first + (i : Int)) k n) 3) ∧ wr.heap[x]? = some (.cells #[.string s, .int .i64 first, .int .i64 (n : Int)] 96) ∧ Below x w wr))
  case atStart => exact ⟨0, Nat.zero_le _, by omega, rfl, HB0.out, HX0.out, HW0.out⟩
  case round =>
    obtain ⟨k, hk, hkx, rfl, HR⟩ := hrel
    by_cases hlt : k < n
    · have HS := hid (set_box (j := k) (v := .int .i64 (first + (k : Int))) HR.out.1)
      rw [fillA_set (fun i => first + (i : Int)) k n] at HS
      have HW : Hid (Below x w (wr.setCell ⟨x + 1, k, none⟩ (.int .i64 (first + (k : Int))))) := HR.out.2.2.setCell (by simp) _
      have HX : Hid ((wr.setCell ⟨x + 1, k, none⟩ (.int .i64 (first + (k : Int)))).heap[x]? = some (.cells #[.string s, .int .i64 first, .int .i64 (n : Int)] 96)) := (Below.heap_setCell _ _ _ _ (by simp)).trans HR.out.2.1
      have hcw := cell_blk HR.out.1 k _ (fillA_get _ k n k hlt)
      have hfw := frz_blk HR.out.1 k
      have hc1 := cell_blk HR.out.2.1 1 _ rfl
      clear HR
      have g1 : (k : Int) < (n : Int) := by omega
      have g3 : IntKind.i64.wrap (first + (k : Int)) = first + (k : Int) := IntWalk.i64_in _ ⟨by omega, by omega⟩
      clear hx
      go_wp2_with fail
      go_roundg (n - (k + 1))
      case measure => omega
      case rel => exact ⟨k + 1, by omega, Nat.le_refl _, by go_num, HS.out, HX.out, HW.out⟩
    · have hkn : k = n := by omega
      have HR' := HR
      rw [hkn] at HR'
      have hlt' : ¬ (k : Int) < (n : Int) := by omega
      have HX := hid hx
      clear hx
      go_wp2_with fail
      go_ret
      have hx := HX.out
      refine ⟨_, rfl, il_fill HR'.out.1 (fun i hi => by unfold I64; omega) (by omega), fun _ b off n c e => by cases e; rw [← hx]; exact Nat.le_succ _, by rw [← hx]; exact HR'.out.2.2⟩
set_option maxHeartbeats 1600000 in
theorem newPart_any {w : World} {v : Value} {l : List Int} (id c : Int) (h : IL w v l) (hl : 0 < l.length) (hid' : I64 id) (hc : I64 c) : Calls Tryz.prog 120 #[.int .i64 id, v, .int .i64 c] w fun e w' => ∃ v', e = .returned v' ∧ PartM w' v' (newP id l c) ∧ InP (fun b => w.heap.size ≤ b) v' (newP id l c) ∧ Below w.heap.size w w' := by
  have HI := hid h
  obtain ⟨⟨a, cap, rfl, hcap, hcm, hnn, hat⟩, hok, hfew⟩ := h
  obtain ⟨b, off, rfl, hb, hcl⟩ := hat (by intro e; rw [e] at hl; simp at hl)
  have hc0 := hcl 0 hl
  simp only [Nat.add_zero] at hc0
  have HH : Hid (headL l = l[0] ∧ I64 l[0]) := ⟨by cases l with | nil => simp at hl | cons x r => rfl, hok _ (by simp)⟩
  have hl' : (0 : Int) < (l.length : Int) := by omega
  obtain ⟨y, hy⟩ : ∃ y, y = l[0] := ⟨_, rfl⟩
  rw [← hy] at hc0 HH
  clear hat hok hcl hcap hcm hnn hy
  have HP : Hid (∀ W, Below w.heap.size w W → PartM W (.agg #[.int .i64 id, .int .i64 y, .int .i64 1, .int .i64 1, .slice (some ⟨b, off, none⟩) l.length cap, .slice (some ⟨b, off, none⟩) l.length cap, .slice none 0 0, .slice none 0 0, .int .i64 c]) (newP id l c)) := fun W hW =>
    ⟨_, _, _, _, by simp [newP, HH.out.1], HI.out.under hW, HI.out.under hW, IL.nil _, IL.nil _, hid', by show I64 (headL l); rw [HH.out.1]; exact HH.out.2, by show I64 1; unfold I64; omega, by show I64 1; unfold I64; omega, hc⟩
  clear HI
  go_enter Tryz.func120, Tryz.ntmps120
  go_upto_region 2 with fail
  have HT0 := hid (two_new w #[.int .i64 0, .int .i64 0, .int .i64 0, .int .i64 0, .slice none 0 0, .slice none 0 0, .slice none 0 0, .slice none 0 0, .int .i64 0] #[.int .i64 id, .int .i64 y, .int .i64 1, .int .i64 1, .slice (some ⟨b, off, none⟩) l.length cap, .slice (some ⟨b, off, none⟩) l.length cap, .slice none 0 0, .slice none 0 0, .int .i64 c])
  generalize (w.alloc (.cells #[.int .i64 0, .int .i64 0, .int .i64 0, .int .i64 0, .slice none 0 0, .slice none 0 0, .slice none 0 0, .slice none 0 0, .int .i64 0] 54)).alloc (.cells #[.int .i64 id, .int .i64 y, .int .i64 1, .int .i64 1, .slice (some ⟨b, off, none⟩) l.length cap, .slice (some ⟨b, off, none⟩) l.length cap, .slice none 0 0, .slice none 0 0, .int .i64 c] 54) = W0 at *
  have z0 := cell_blk HT0.out.z 0 _ rfl
  have z1 := cell_blk HT0.out.z 1 _ rfl
  have z2 := cell_blk HT0.out.z 2 _ rfl
  have z3 := cell_blk HT0.out.z 3 _ rfl
  have z4 := cell_blk HT0.out.z 4 _ rfl
  have z5 := cell_blk HT0.out.z 5 _ rfl
  have z6 := cell_blk HT0.out.z 6 _ rfl
  have z7 := cell_blk HT0.out.z 7 _ rfl
  have z8 := cell_blk HT0.out.z 8 _ rfl
  have HCL := hid (clone_any (HP.out W0 HT0.out.b))
  go_wp2_with fail
  refine HCL.out.mono ?_
  rintro e W1 ⟨v', rfl, h1, h2, hb1⟩
  have HP1 := hid h1
  have HN1 := hid h2
  obtain ⟨x1, y1, x2, y2, x3, y3, x4, y4, rfl, _⟩ := h1.open
  have HT1 := hid (HT0.out.next hb1)
  clear h2 z0 z1 z2 z3 z4 z5 z6 z7 z8 hb1
  have z0 := cell_blk HT1.out.x 0 _ rfl
  have z1 := cell_blk HT1.out.x 1 _ rfl
  have z2 := cell_blk HT1.out.x 2 _ rfl
  have z3 := cell_blk HT1.out.x 3 _ rfl
  have z4 := cell_blk HT1.out.x 4 _ rfl
  have z5 := cell_blk HT1.out.x 5 _ rfl
  have z6 := cell_blk HT1.out.x 6 _ rfl
  have z7 := cell_blk HT1.out.x 7 _ rfl
  have z8 := cell_blk HT1.out.x 8 _ rfl
  have fz := frz_blk HT1.out.x
  go_wp2_with fail
  generalize newP id l c = P at *
  obtain ⟨N, hN⟩ : ∃ N, N = puts W1 w.heap.size 0 [.int .i64 P.id, .int .i64 P.leader, .int .i64 P.epoch, .int .i64 P.ver, .slice x1 P.isr.length y1, .slice x2 P.reps.length y2, .slice x3 P.add.length y3, .slice x4 P.rem.length y4, .int .i64 P.min] := ⟨_, rfl⟩
  have HR : PutsR W1 N w.heap.size 0 [.int .i64 P.id, .int .i64 P.leader, .int .i64 P.epoch, .int .i64 P.ver, .slice x1 P.isr.length y1, .slice x2 P.reps.length y2, .slice x3 P.add.length y3, .slice x4 P.rem.length y4, .int .i64 P.min] := by rw [hN]; exact puts_all _ _ _ _
  show bodyPost Tryz.prog Tryz.f120 _ Exit.ret _ (puts W1 w.heap.size 0 [.int .i64 P.id, .int .i64 P.leader, .int .i64 P.epoch, .int .i64 P.ver, .slice x1 P.isr.length y1, .slice x2 P.reps.length y2, .slice x3 P.add.length y3, .slice x4 P.rem.length y4, .int .i64 P.min])
  rw [← hN]
  clear hN
  have hx := HR.box9 HT1.out.x rfl
  have hs0 := HT0.out.s
  have r0 := cell_blk hx 0 _ rfl
  have r1 := cell_blk hx 1 _ rfl
  have r2 := cell_blk hx 2 _ rfl
  have r3 := cell_blk hx 3 _ rfl
  have r4 := cell_blk hx 4 _ rfl
  have r5 := cell_blk hx 5 _ rfl
  have r6 := cell_blk hx 6 _ rfl
  have r7 := cell_blk hx 7 _ rfl
  have r8 := cell_blk hx 8 _ rfl
  exact bodyPost_ret (v := .agg #[.int .i64 P.id, .int .i64 P.leader, .int .i64 P.epoch, .int .i64 P.ver, .slice x1 P.isr.length y1, .slice x2 P.reps.length y2, .slice x3 P.add.length y3, .slice x4 P.rem.length y4, .int .i64 P.min]) (by simp [results, Tryz.results120, go_sem, r0, r1, r2, r3, r4, r5, r6, r7, r8]) rfl ⟨_, rfl, HP1.out.kept HN1.out (fun k hk => HR.other k (by omega)) (by rw [HR.size]; exact Nat.le_refl _), HN1.out.mono (fun k hk => by omega), HR.below HT1.out.b (Nat.le_refl _)⟩
end Go.Proofs.YtcffomhcmilcpaaGreat
