/- The walk of TimerPlays. -/
import Derived.Test.YtohbnkghenlnoaaPlays
import Derived.Deep.RegionHeld
namespace Go.Proofs.Ytohbnkghenlnoaa
open Go.RowKit Go.Maps
set_option maxRecDepth 100000
set_option linter.unusedSimpArgs false
set_option linter.unusedVariables false

def Tk (s : List Tm) : Prop := ∀ x ∈ s, x.tick ≤ 1000000000
theorem tk_del {s : List Tm} (h : Tk s) (k : Int) : Tk (del s k) := fun x hx => h x (mem_del.1 hx).1
theorem tk_set {s : List Tm} (h : Tk s) (k t : Int) : Tk (setL s k t) := by
  unfold setL
  split
  · rename_i he
    have ht : t ≤ 1000000000 := by
      unfold setE at he
      split at he
      · omega
      · omega
    intro x hx
    rcases mem_ins.1 hx with rfl | hx
    · exact ht
    · exact tk_del h k x hx
  · exact h
theorem tk_rest {s : List Tm} (h : Tk s) (now : Int) : Tk (restL s now) := fun x hx => h x ((List.dropWhile_suffix _).subset hx)
theorem rest_all {s : List Tm} (h : Tk s) : restL s 1000000000 = [] := by
  have := (due_split 1000000000 s s.length (Nat.le_refl _) (fun x hx => h x (List.mem_of_mem_take hx)) (fun x hx => by simp at hx)).2
  rwa [List.drop_length] at this

set_option maxHeartbeats 8000000 in
theorem plays_walk (so : Option Addr) (cap0 : Nat) (ops : List OpV) (w : World) (hops : OpsAt w so ops) (hlen : ops.length ≤ maxLen) :
    Calls Try.prog 3 #[.slice so ops.length cap0] w fun e w' => e = .returned (.bool true) ∧ Below w.heap.size w w' := by
  have HSh := hid (shown_any w)
  have hlen' : ops.length ≤ 9223372036854775807 := by unfold maxLen at hlen; exact hlen
  have HNew : Hid (∀ w1, Below w.heap.size w w1 → Calls Try.prog 7 #[] w1 fun e w' => ∃ a, e = .returned (.pointer (some ⟨a, 0, none⟩)) ∧ On w w' a []) := fun w1 hb =>
    (on_new hb).mono fun e w' ⟨he, ho⟩ => ⟨_, he, ho⟩
  have HOps : Hid (∀ W, Below w.heap.size w W → OpsAt W so ops) := fun W hW => hops.under hW
  clear hops hlen
  go_enter Try.func3, Try.ntmps3
  go_wp2_with (first
    | (go_at_call 6; refine HSh.out.mono ?_; rintro e w1 ⟨rfl, hb⟩; have HB := hid hb; clear hb HSh)
    | (go_at_call 7; refine (HNew.out _ HB.out).mono ?_; rintro e w2 ⟨a, rfl, ho⟩; have HO := hid (two_start ho); clear ho HNew HB))
  generalize w2.heap.size = r at *
  go_loopg [6] ops.length (fun kx si wr => ∃ (i : Nat) (s : List Tm), i ≤ ops.length ∧ ops.length - i ≤ kx ∧ si = .int .i64 (i : Int) ∧ Hid (Tk s) ∧ Hid (Two (fun k => k < w.heap.size) w wr a r s))
  case atStart => exact ⟨0, [], Nat.zero_le _, by omega, rfl, (fun x hx => by simp at hx), HO⟩
  case round =>
    obtain ⟨i, s, hi, hkx, rfl, HTk, HI⟩ := hrel
    by_cases hgo : i < ops.length ∧ i < 400
    · have hltz : (i : Int) < (ops.length : Int) := by omega
      have hlt4 : (i : Int) < 400 := by omega
      obtain ⟨b, off, rfl, hbl, hc⟩ : ∃ b off, so = some ⟨b, off, none⟩ ∧ b < wr.heap.size ∧ ∀ i (hi : i < ops.length), ops[i].ok ∧ OpCells wr b (off + i * 3) ops[i] := by
        rcases HOps.out wr (HI.out.frm.below) with h | h
        · rw [h] at hgo; simp at hgo
        · exact h
      obtain ⟨hok, p0, p1, p2⟩ := hc i hgo.1
      generalize ops[i] = x at hok p0 p1 p2
      obtain ⟨q, hq, HPk⟩ : ∃ q : Nat, q < 6 ∧ Hid (∀ wx, Calls Try.prog 8 #[.int .i64 x.kind, .int .i64 6] wx fun e w' => e = .returned (.int .i64 (q : Int)) ∧ w' = wx) := by
        have hr := pickI_range x.kind 6 (by decide)
        refine ⟨(pickI x.kind 6).toNat, by omega, fun wx => ?_⟩
        have := pick_any x.kind 6 wx hok.1 (by decide) (by decide)
        rwa [show ((pickI x.kind 6).toNat : Int) = pickI x.kind 6 by omega]
      have hhold := HI.out.hold (.cells #[.int .i64 x.kind, .int .i64 x.key, .int .i64 x.tick] 31)
      have HT := hid hhold.1
      have HFr := hid hhold.2
      have o1 : (wr.alloc (.cells #[.int .i64 x.kind, .int .i64 x.key, .int .i64 x.tick] 31)).cell? ⟨wr.heap.size, 1, none⟩ = some (.int .i64 x.key) := cell_new rfl rfl
      have o2 : (wr.alloc (.cells #[.int .i64 x.kind, .int .i64 x.key, .int .i64 x.tick] 31)).cell? ⟨wr.heap.size, 2, none⟩ = some (.int .i64 x.tick) := cell_new rfl rfl
      clear hc HI HOps hhold HO
      have h6 : q = 0 ∨ q = 1 ∨ q = 2 ∨ q = 3 ∨ q = 4 ∨ q = 5 := by omega
      rcases h6 with hq0 | hq1 | hq2 | hq3 | hq4 | hq5
      · subst hq0
        go_wp2_with (first | (go_at_call 8; refine (HPk.out _).mono ?_; rintro e w3 ⟨rfl, h⟩; subst h; clear HPk))
        have HTk2 : Hid (Tk (setL s x.key x.tick)) := tk_set HTk.out x.key x.tick
        go_region_held (fun w' => w'.cell? ⟨wr.heap.size, 1, none⟩ = some (.int .i64 x.key) ∧ w'.cell? ⟨wr.heap.size, 2, none⟩ = some (.int .i64 x.tick)) (first | assumption | exact ⟨by assumption, by assumption⟩ | go_keep)
          (first
            | (go_at_call 9; refine (two_set HT.out.drew x.key x.tick hok.2.1).mono ?_; rintro e w4 ⟨rfl, h4⟩; have H4 := hid h4; have z1 := (Half.frm h4).cell (.inr rfl) o1; have z2 := (Half.frm h4).cell (.inr rfl) o2; clear h4)
            | (go_at_call 10; refine (two_rset x.key x.tick H4.out).mono ?_; rintro e w5 ⟨rfl, h5⟩; have HT2 := hid h5; have y1 := (Half.frm h5).cell (.inr rfl) o1; have y2 := (Half.frm h5).cell (.inr rfl) o2; clear h5))
        go_wp2_with fail
        obtain ⟨og, cg, hcg⟩ := two_cell HT2.out
        go_quiet ((first
          | (go_at_call 18; exact (two_len (HT2.out.drewN _)).mono fun e w' h => ⟨h.1, _, h.2⟩)
          | (go_at_call 19; exact (two_next (HT2.out.drewN _)).mono fun e w' h => ⟨h.1, _, h.2⟩)
          | (go_at_call 20; exact (two_rnext (HT2.out.drewN _)).mono fun e w' h => ⟨h.1, _, h.2⟩)))
        go_wp2_with fail
        go_roundg (ops.length - (i + 1))
        case measure => omega
        case rel => exact ⟨i + 1, _, by omega, Nat.le_refl _, by go_num, HTk2, Two.release (HT2.out.drewN _) HFr.out⟩
      · subst hq1
        go_wp2_with (first | (go_at_call 8; refine (HPk.out _).mono ?_; rintro e w3 ⟨rfl, h⟩; subst h; clear HPk))
        have HTk2 : Hid (Tk (setL s x.key x.tick)) := tk_set HTk.out x.key x.tick
        go_region_held (fun w' => w'.cell? ⟨wr.heap.size, 1, none⟩ = some (.int .i64 x.key) ∧ w'.cell? ⟨wr.heap.size, 2, none⟩ = some (.int .i64 x.tick)) (first | assumption | exact ⟨by assumption, by assumption⟩ | go_keep)
          (first
            | (go_at_call 9; refine (two_set HT.out.drew x.key x.tick hok.2.1).mono ?_; rintro e w4 ⟨rfl, h4⟩; have H4 := hid h4; have z1 := (Half.frm h4).cell (.inr rfl) o1; have z2 := (Half.frm h4).cell (.inr rfl) o2; clear h4)
            | (go_at_call 10; refine (two_rset x.key x.tick H4.out).mono ?_; rintro e w5 ⟨rfl, h5⟩; have HT2 := hid h5; have y1 := (Half.frm h5).cell (.inr rfl) o1; have y2 := (Half.frm h5).cell (.inr rfl) o2; clear h5))
        go_wp2_with fail
        obtain ⟨og, cg, hcg⟩ := two_cell HT2.out
        go_quiet ((first
          | (go_at_call 18; exact (two_len (HT2.out.drewN _)).mono fun e w' h => ⟨h.1, _, h.2⟩)
          | (go_at_call 19; exact (two_next (HT2.out.drewN _)).mono fun e w' h => ⟨h.1, _, h.2⟩)
          | (go_at_call 20; exact (two_rnext (HT2.out.drewN _)).mono fun e w' h => ⟨h.1, _, h.2⟩)))
        go_wp2_with fail
        go_roundg (ops.length - (i + 1))
        case measure => omega
        case rel => exact ⟨i + 1, _, by omega, Nat.le_refl _, by go_num, HTk2, Two.release (HT2.out.drewN _) HFr.out⟩
      · subst hq2
        go_wp2_with (first | (go_at_call 8; refine (HPk.out _).mono ?_; rintro e w3 ⟨rfl, h⟩; subst h; clear HPk))
        have HTk2 : Hid (Tk (setL s x.key x.tick)) := tk_set HTk.out x.key x.tick
        go_region_held (fun w' => w'.cell? ⟨wr.heap.size, 1, none⟩ = some (.int .i64 x.key) ∧ w'.cell? ⟨wr.heap.size, 2, none⟩ = some (.int .i64 x.tick)) (first | assumption | exact ⟨by assumption, by assumption⟩ | go_keep)
          (first
            | (go_at_call 9; refine (two_set HT.out.drew x.key x.tick hok.2.1).mono ?_; rintro e w4 ⟨rfl, h4⟩; have H4 := hid h4; have z1 := (Half.frm h4).cell (.inr rfl) o1; have z2 := (Half.frm h4).cell (.inr rfl) o2; clear h4)
            | (go_at_call 10; refine (two_rset x.key x.tick H4.out).mono ?_; rintro e w5 ⟨rfl, h5⟩; have HT2 := hid h5; have y1 := (Half.frm h5).cell (.inr rfl) o1; have y2 := (Half.frm h5).cell (.inr rfl) o2; clear h5))
        go_wp2_with fail
        obtain ⟨og, cg, hcg⟩ := two_cell HT2.out
        go_quiet ((first
          | (go_at_call 18; exact (two_len (HT2.out.drewN _)).mono fun e w' h => ⟨h.1, _, h.2⟩)
          | (go_at_call 19; exact (two_next (HT2.out.drewN _)).mono fun e w' h => ⟨h.1, _, h.2⟩)
          | (go_at_call 20; exact (two_rnext (HT2.out.drewN _)).mono fun e w' h => ⟨h.1, _, h.2⟩)))
        go_wp2_with fail
        go_roundg (ops.length - (i + 1))
        case measure => omega
        case rel => exact ⟨i + 1, _, by omega, Nat.le_refl _, by go_num, HTk2, Two.release (HT2.out.drewN _) HFr.out⟩
      · subst hq3
        go_wp2_with (first | (go_at_call 8; refine (HPk.out _).mono ?_; rintro e w3 ⟨rfl, h⟩; subst h; clear HPk))
        have HTk2 : Hid (Tk (del s x.key)) := tk_del HTk.out x.key
        go_region_held (fun w' => w'.cell? ⟨wr.heap.size, 1, none⟩ = some (.int .i64 x.key) ∧ w'.cell? ⟨wr.heap.size, 2, none⟩ = some (.int .i64 x.tick)) (first | assumption | exact ⟨by assumption, by assumption⟩ | go_keep)
          (first
            | (go_at_call 11; refine (two_cancel HT.out.drew x.key hok.2.1).mono ?_; rintro e w4 ⟨rfl, h4⟩; have H4 := hid h4; have z1 := (Half.frm h4).cell (.inr rfl) o1; have z2 := (Half.frm h4).cell (.inr rfl) o2; clear h4)
            | (go_at_call 12; refine (two_rcancel x.key H4.out).mono ?_; rintro e w5 ⟨rfl, h5⟩; have HT2 := hid h5; have y1 := (Half.frm h5).cell (.inr rfl) o1; have y2 := (Half.frm h5).cell (.inr rfl) o2; clear h5))
        go_wp2_with fail
        obtain ⟨og, cg, hcg⟩ := two_cell HT2.out
        go_quiet ((first
          | (go_at_call 18; exact (two_len (HT2.out.drewN _)).mono fun e w' h => ⟨h.1, _, h.2⟩)
          | (go_at_call 19; exact (two_next (HT2.out.drewN _)).mono fun e w' h => ⟨h.1, _, h.2⟩)
          | (go_at_call 20; exact (two_rnext (HT2.out.drewN _)).mono fun e w' h => ⟨h.1, _, h.2⟩)))
        go_wp2_with fail
        go_roundg (ops.length - (i + 1))
        case measure => omega
        case rel => exact ⟨i + 1, _, by omega, Nat.le_refl _, by go_num, HTk2, Two.release (HT2.out.drewN _) HFr.out⟩
      · subst hq4
        go_wp2_with (first | (go_at_call 8; refine (HPk.out _).mono ?_; rintro e w3 ⟨rfl, h⟩; subst h; clear HPk))
        have HTk2 : Hid (Tk (restL s x.tick)) := tk_rest HTk.out x.tick
        go_region_held (fun w' => w'.cell? ⟨wr.heap.size, 1, none⟩ = some (.int .i64 x.key) ∧ w'.cell? ⟨wr.heap.size, 2, none⟩ = some (.int .i64 x.tick)) (first | assumption | exact ⟨by assumption, by assumption⟩ | go_keep)
          (first
            | (go_at_call 14; refine (two_due HT.out.drew x.tick).mono ?_; rintro e w4 ⟨oa4, c4, rfl, h4, hf4⟩; have H4 := hid h4; have z1 := hf4.cell (.inr rfl) o1; have z2 := hf4.cell (.inr rfl) o2; clear h4 hf4)
            | (go_at_call 15; refine (two_rdue H4.out).mono ?_; rintro e w5 ⟨ob5, c5, rfl, h5⟩; have H5 := hid h5; have y1 := (Half.frm h5.1).cell (.inr rfl) o1; have y2 := (Half.frm h5.1).cell (.inr rfl) o2; clear h5)
            | (go_at_call 13; refine (two_ints H5.out).mono ?_; rintro e w6 ⟨rfl, h6⟩; have HT2 := hid h6; have q1 := (Half.frm h6).cell (.inr rfl) o1; have q2 := (Half.frm h6).cell (.inr rfl) o2; clear h6))
        go_wp2_with fail
        obtain ⟨og, cg, hcg⟩ := two_cell HT2.out
        go_quiet ((first
          | (go_at_call 18; exact (two_len (HT2.out.drewN _)).mono fun e w' h => ⟨h.1, _, h.2⟩)
          | (go_at_call 19; exact (two_next (HT2.out.drewN _)).mono fun e w' h => ⟨h.1, _, h.2⟩)
          | (go_at_call 20; exact (two_rnext (HT2.out.drewN _)).mono fun e w' h => ⟨h.1, _, h.2⟩)))
        go_wp2_with fail
        go_roundg (ops.length - (i + 1))
        case measure => omega
        case rel => exact ⟨i + 1, _, by omega, Nat.le_refl _, by go_num, HTk2, Two.release (HT2.out.drewN _) HFr.out⟩
      · subst hq5
        go_wp2_with (first | (go_at_call 8; refine (HPk.out _).mono ?_; rintro e w3 ⟨rfl, h⟩; subst h; clear HPk))
        go_quiet ((first
          | (go_at_call 16; exact Calls.quiet_of_same (two_at (HT.out.drewN _) x.key hok.2.1))
          | (go_at_call 17; exact Calls.quiet_of_same (two_rat (HT.out.drewN _) x.key))))
        have HT2 := HT
        have HTk2 := HTk
        go_wp2_with fail
        obtain ⟨og, cg, hcg⟩ := two_cell HT2.out
        go_quiet ((first
          | (go_at_call 18; exact (two_len (HT2.out.drewN _)).mono fun e w' h => ⟨h.1, _, h.2⟩)
          | (go_at_call 19; exact (two_next (HT2.out.drewN _)).mono fun e w' h => ⟨h.1, _, h.2⟩)
          | (go_at_call 20; exact (two_rnext (HT2.out.drewN _)).mono fun e w' h => ⟨h.1, _, h.2⟩)))
        go_wp2_with fail
        go_roundg (ops.length - (i + 1))
        case measure => omega
        case rel => exact ⟨i + 1, _, by omega, Nat.le_refl _, by go_num, HTk2, Two.release (HT2.out.drewN _) HFr.out⟩
    · have hgz : ¬ ((i : Int) < (ops.length : Int) ∧ (i : Int) < 400) := by omega
      have HR : Hid (restL s 1000000000 = []) := rest_all HTk.out
      have HC1 := hid (two_due HI.out 1000000000)
      have HC3 : Hid (∀ wx, Two (fun k => k < w.heap.size) w wx a r (restL s 1000000000) → Calls Try.prog 18 #[.pointer (some ⟨a, 0, none⟩)] wx fun e w' => e = .returned (.int .i64 0) ∧ w' = wx) := fun wx h => by
        have := two_len h; rw [HR.out] at this; exact this
      clear HI HOps HTk HO HR
      by_cases g1 : i < ops.length
      · have g1z : (i : Int) < (ops.length : Int) := by omega
        have g2z : ¬ (i : Int) < 400 := by omega
        clear hgz hgo
        go_wp2_with (first
          | (go_at_call 14; refine HC1.out.mono ?_; rintro e w4 ⟨oa4, c4, rfl, h4, _⟩; have H4 := hid h4; clear h4)
          | (go_at_call 15; refine (two_rdue H4.out).mono ?_; rintro e w5 ⟨ob5, c5, rfl, h5⟩; have H5 := hid h5; clear h5)
          | (go_at_call 13; refine (two_ints H5.out).mono ?_; rintro e w6 ⟨rfl, h6⟩; have H6 := hid h6; clear h6)
          | (go_at_call 18; refine (HC3.out _ H6.out).mono ?_; rintro e w7 ⟨rfl, h⟩; subst h))
        go_ret
        exact ⟨rfl, H6.out.frm.below⟩
      · have g1z : ¬ (i : Int) < (ops.length : Int) := by omega
        clear hgz hgo
        go_wp2_with (first
          | (go_at_call 14; refine HC1.out.mono ?_; rintro e w4 ⟨oa4, c4, rfl, h4, _⟩; have H4 := hid h4; clear h4)
          | (go_at_call 15; refine (two_rdue H4.out).mono ?_; rintro e w5 ⟨ob5, c5, rfl, h5⟩; have H5 := hid h5; clear h5)
          | (go_at_call 13; refine (two_ints H5.out).mono ?_; rintro e w6 ⟨rfl, h6⟩; have H6 := hid h6; clear h6)
          | (go_at_call 18; refine (HC3.out _ H6.out).mono ?_; rintro e w7 ⟨rfl, h⟩; subst h))
        go_ret
        exact ⟨rfl, H6.out.frm.below⟩

end Go.Proofs.Ytohbnkghenlnoaa
