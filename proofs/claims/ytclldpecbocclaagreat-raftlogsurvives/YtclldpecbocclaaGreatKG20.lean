/- What is read back: a body. -/
import Derived.Test.YtclldpecbocclaaGreatK11
import Derived.Test.YtclldpecbocclaaGreatK12
namespace Go.Proofs.YtclldpecbocclaaGreat
open Go.RowKit Go.Maps
set_option maxRecDepth 100000
set_option linter.unusedSimpArgs false
set_option linter.unusedVariables false

theorem textS_big (most : Int) (t more : List UInt8) (h : (t.length : Int) ≤ most) (hm : most ≤ 100000) : textS most ⟨textL t ++ more, false⟩ = (t, ⟨more, false⟩) := by
  have e : textL t ++ more = intL t.length ++ (t ++ more) := by simp [textL]
  unfold textS
  rw [e, countS_intL most t.length (t ++ more) ⟨by omega, by omega⟩ (by omega) h, if_neg (by simp; omega)]
  simp
/-- A body's reading: the states of the reader. -/
theorem body_states (x : Et) (ht : I64 x.t) (hi : I64 x.i) (hd : x.d.length ≤ 2048) : numS ⟨bodyE x, false⟩ = (x.t, ⟨intL x.i ++ textL x.d, false⟩) ∧ numS ⟨intL x.i ++ textL x.d, false⟩ = (x.i, ⟨textL x.d, false⟩) ∧ textS 2048 ⟨textL x.d, false⟩ = (x.d, ⟨[], false⟩) := by
  have e : bodyE x = intL x.t ++ (intL x.i ++ textL x.d) := by unfold bodyE; simp [intsL]
  refine ⟨by rw [e]; exact numS_intL _ _ ht, numS_intL _ _ hi, ?_⟩
  have := textS_big 2048 x.d [] (by omega) (by omega)
  rw [List.append_nil] at this
  exact this
set_option maxHeartbeats 400000 in
theorem pread_any (l : List UInt8) (w : World) : Calls Tryz.prog 75 #[.string (strOf l)] w fun e w' => e = .returned (.pointer (some ⟨w.heap.size, 0, none⟩)) ∧ w' = w.alloc (.cells #[.string (strOf l), .bool false] 132) := by
  go_enter Tryz.func75, Tryz.ntmps75
  go_wp2
  go_ret
  exact ⟨rfl, rfl⟩
theorem grown_blk {w w' : World} {q b : Nat} {O : Obj} (hg : w.grownBy w' (some q)) (h : w.heap[b]? = some O) (hne : b ≠ q) : w'.heap[b]? = some O := (hg.block b (lt_blk h) (by simpa using fun e => hne e)).trans h
theorem grown_below2 {w0 w w' : World} {q : Nat} (hb : Below w0.heap.size w0 w) (hg : w.grownBy w' (some q)) (hq : w0.heap.size ≤ q) : Below w0.heap.size w0 w' := hb.grown hg hb.size (fun k hk => by cases hk; exact hq)
end Go.Proofs.YtclldpecbocclaaGreat

