/- The group of a name is found or made. -/
import Derived.Test.YtdnpbhijjmlecaaG18
namespace Go.Proofs.Ytdnpbhijjmlecaa
open Go.RowKit Go.Maps
set_option maxRecDepth 100000
set_option linter.unusedSimpArgs false
set_option linter.unusedVariables false

def FoundP (w : World) (q b : Nat) (es : List En) (S : Gs) (key : List UInt8) (e : Ending) (w' : World) : Prop :=
  ∃ es' x, e = .returned (ptr x.at_) ∧ AllC w' q b es' { S with gs := madeG S.gs key } ∧ x ∈ es' ∧ x.name = key ∧ x.g = foundG S.gs key ∧ (∀ d ∈ es', ∀ k, d.own k → (∃ c ∈ es, c.own k) ∨ w.heap.size ≤ k) ∧ Keeps (fun k => k = b) w w'
theorem new_group (w : World) : GrM ((w.alloc (.map #[] 0)).alloc (.cells #[.int .i64 0, .int .i64 0, .slice none 0 0, .slice none 0 0, .map (some w.heap.size)] 72)) (fun k => k = w.heap.size ∨ k = w.heap.size + 1) (w.heap.size + 1) Gr.zero := by
  have hz : (w.alloc (.map #[] 0)).heap.size = w.heap.size + 1 := by simp
  have hz2 : ((w.alloc (.map #[] 0)).alloc (.cells #[.int .i64 0, .int .i64 0, .slice none 0 0, .slice none 0 0, .map (some w.heap.size)] 72)).heap.size = w.heap.size + 2 := by simp
  refine ⟨.slice none 0 0, .slice none 0 0, w.heap.size, ⟨?_, ⟨rfl, .inl ⟨rfl, rfl⟩⟩, IL.nil _, ?_, In.nil _ _⟩, fun k hk => ?_, In.nil _ _, fun k hk => ?_⟩
  · have := heap_alloc_new (w.alloc (.map #[] 0)) (.cells #[.int .i64 0, .int .i64 0, .slice none 0 0, .slice none 0 0, .map (some w.heap.size)] 72)
    rw [hz] at this
    exact this
  · exact (World.ownsMap_made w Try.prog 3 Ro).alloc _
  · rcases hk with rfl | rfl | hk
    · exact .inr rfl
    · exact .inl rfl
    · cases hk
  · rw [hz2]; rcases hk with rfl | rfl <;> omega
set_option maxHeartbeats 1600000 in
theorem findOrMake_any {w : World} {q b : Nat} {es : List En} {S : Gs} (h : AllC w q b es S) (hf : es.length ≤ 1000) (n : ByteArray) (hn32 : n.size ≤ 32) : Calls Try.prog 47 #[.pointer (some ⟨q, 0, none⟩), .string n] w (FoundP w q b es S n.data.toList) := by
  have hn : n.size ≤ maxLen := by unfold maxLen; omega
  have c0 := h.c0
  have hl := h.look_ok n hn
  have hg := h.get n.data.toList
  have HH := hid h
  have HGT := hid hg
  have hq := h.qlt
  have hmm := @run_makeMap Try.prog
  unfold ptrE at hl
  clear h hg
  cases hfd : findE es n.data.toList with
  | some x =>
    rw [hfd] at hl HGT
    obtain ⟨hm, hnx⟩ := findE_mem hfd
    have HM := hid hm
    have HNX := hid hnx
    simp only [Option.isSome_some] at hl
    unfold ptr at hl
    have hP : FoundP w q b es S n.data.toList (.returned (ptr x.at_)) w := by
      refine ⟨es, x, rfl, ?_, hm, hnx, ?_, fun d hd k hk => .inl ⟨d, hd, hk⟩, Keeps.refl _ _⟩
      · have : madeG S.gs n.data.toList = S.gs := by unfold madeG; rw [HGT.out]; rfl
        rw [this]; exact HH.out
      · unfold foundG; rw [HGT.out]; rfl
    have HP := hid hP
    clear hm hfd hP hnx
    go_enter Try.func47, Try.ntmps47
    go_wp2_with fail
    go_ret
    exact HP.out
  | none =>
    rw [hfd] at hl HGT
    have hno := findE_none hfd
    simp only [Option.isSome_none] at hl
    obtain ⟨W, hW⟩ : ∃ W, W = (w.alloc (.map #[] 0)).alloc (.cells #[.int .i64 0, .int .i64 0, .slice none 0 0, .slice none 0 0, .map (some w.heap.size)] 72) := ⟨_, rfl⟩
    have hbW : Below w.heap.size w W := by rw [hW]; exact ((Below.refl _ _).alloc (Nat.le_refl _) _).alloc (by simp) _
    have HNG : Hid (GrM W (fun k => k = w.heap.size ∨ k = w.heap.size + 1) (w.heap.size + 1) Gr.zero) := by rw [hW]; exact new_group w
    have HBW := hid hbW
    have HSC := hid (fun V => sclone_any n V (by omega))
    have hA := HH.out.under hbW
    have hlt : ∀ d ∈ es, ∀ k, d.own k → k < w.heap.size := fun d hd k hdk => by obtain ⟨_, _, _, _, _, _, hz⟩ := (HH.out.each d hd).1; exact hz k hdk
    have HPUT : Hid (∀ V, Below W.heap.size W V → ∃ w', (Instr.mapUpdate 52 (.map (some b)) (.string n) (.pointer (some ⟨w.heap.size + 1, 0, none⟩))).run Try.prog V = .ok () w' ∧ w'.cell? ⟨q, 0, none⟩ = some (.map (some b)) ∧ FoundP w q b es S n.data.toList (.returned (.pointer (some ⟨w.heap.size + 1, 0, none⟩))) w') := fun V hV => by
      obtain ⟨w', h1, h2, h3⟩ := (hA.under hV).put ⟨n.data.toList, w.heap.size + 1, Gr.zero, fun k => k = w.heap.size ∨ k = w.heap.size + 1⟩ (HNG.out.under hV) (fun k hk => by have := HH.out.blt; rcases hk with rfl | rfl <;> omega) hno (fun d hd k hk hdk => by have := hlt d hd k hdk; rcases hk with rfl | rfl <;> omega) hf n hn rfl
      refine ⟨w', h1, h2.c0, insE ⟨n.data.toList, w.heap.size + 1, Gr.zero, fun k => k = w.heap.size ∨ k = w.heap.size + 1⟩ es, ⟨n.data.toList, w.heap.size + 1, Gr.zero, fun k => k = w.heap.size ∨ k = w.heap.size + 1⟩, rfl, ?_, (mem_insE _ _ _).2 (.inl rfl), rfl, ?_, fun d hd k hk => ?_, ?_⟩
      · have e : madeG S.gs n.data.toList = insG (n.data.toList, Gr.zero) S.gs := by unfold madeG; rw [HGT.out]; rfl
        rw [e]
        exact h2
      · unfold foundG; rw [HGT.out]; rfl
      · rcases (mem_insE _ _ _).1 hd with rfl | hd
        · rcases hk with rfl | rfl
          · exact .inr (Nat.le_refl _)
          · exact .inr (by omega)
        · exact .inl ⟨d, hd, hk⟩
      · exact ((Keeps.of_below (S := fun k => k = b) hbW).trans (Keeps.of_below (S := fun k => k = b) hV) (fun _ k => .inl k)).trans (Keeps.of_grown (S := fun k => k = b) h3 (fun k hk => by cases hk; rfl)) (fun _ k => .inl k)
    have HC : Hid (∀ V, Below W.heap.size W V → V.cell? ⟨q, 0, none⟩ = some (.map (some b))) := fun V hV => kept_cell (hbW.trans (hV.mono hbW.size)) c0
    have heqn : ∀ V : World, (binOp .eql 52 (.map (some b)) (.map none)).run Try.prog V = .ok (.bool false) V := fun V => by kernel_rfl
    clear hno hfd hA hlt hbW
    go_enter Try.func47, Try.ntmps47
    go_wp2_with fail
    rw [← hW]
    clear hW
    have c0W := HC.out W (Below.refl _ _)
    clear c0 hl
    go_region_held3 (fun V => V.cell? ⟨q, 0, none⟩ = some (.map (some b))) (go_keep)
      (first | (go_at_call 58; refine (HSC.out _).mono ?_; rintro e w2 ⟨rfl, hb2⟩; have HB2 := hid ((show Below W.heap.size W _ by first | exact Below.refl _ _ | exact (Below.refl _ _).drew).trans hb2); have c2 := HC.out w2 HB2.out; obtain ⟨w3, hup, c3, hfp⟩ := HPUT.out w2 HB2.out; have HFP := hid hfp; clear hfp hb2) | fail)
    go_wp2_with fail
    go_ret
    exact HFP.out
end Go.Proofs.Ytdnpbhijjmlecaa
