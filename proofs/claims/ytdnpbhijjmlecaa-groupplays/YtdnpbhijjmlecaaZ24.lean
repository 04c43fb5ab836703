/- The document's Join: a new group in the row. -/
import Derived.Test.YtdnpbhijjmlecaaZ18
import Derived.Test.YtdnpbhijjmlecaaZ22
namespace Go.Proofs.Ytdnpbhijjmlecaa
open Go.RowKit Go.Maps
set_option maxRecDepth 100000
set_option linter.unusedSimpArgs false
set_option linter.unusedVariables false

theorem info57 : ∃ i, Try.prog.info? 57 = some i ∧ i.zero = some (.pointer none) ∧ i.size = 1 ∧ i.bytes = 8 := ⟨_, rfl, rfl, rfl, rfl⟩
def insX (es : List Ent) (i : Nat) (x : Ent) : List Ent := es.take i ++ x :: es.drop i
/-- A new group lies in the row. -/
structure NewP (w0 V : World) (r : Nat) (vl' : Value) (es : List Ent) (i : Nat) (x : Ent) (ep : Int) : Prop where
  b : w0.heap.size ≤ x.b
  g : DgR V x.b x.n x.vm x.vp x.vo x.vn x.d
  rc : V.heap[r]? = some (.cells #[vl', .int .i64 ep] 29)
  row : V.ownsRow 0 57 1 vl' (insX es i x).length (ptrs (insX es i x))
  vl : ∀ k, vl'.ownBlock = some k → w0.heap.size ≤ k ∧ k ≠ x.b
  k : Keeps (fun k => k = r) w0 V
theorem ptrs_one (es : List Ent) : ∀ u ∈ ptrs es, u.oneCell' = true := fun u hu => by
  unfold ptrs at hu
  obtain ⟨e, _, rfl⟩ := List.mem_map.1 hu
  rfl
theorem ptrs_len (es : List Ent) : (ptrs es).length = es.length := by simp [ptrs]
theorem ptrs_append (a b : List Ent) : ptrs (a ++ b) = ptrs a ++ ptrs b := by simp [ptrs]
theorem row_new57 (w : World) : (w.alloc (.cells #[] 57)).ownsRow w.heap.size 57 1 (.slice (some ⟨w.heap.size, 0, none⟩) 0 0) 0 [] := ⟨rfl, .inr ⟨w.heap.size, 0, #[], rfl, Nat.le_refl _, heap_alloc_new _ _, Nat.le_refl _, Nat.zero_le _, rfl, rfl⟩⟩
theorem row_two {w : World} {B e s n : Nat} {v : Value} {xs : List Value} (h : w.ownsRow B e s v n xs) : (v = .slice none 0 0 ∧ n = 0) ∨ ∃ g c, v = .slice (some ⟨g, 0, none⟩) n c ∧ n ≤ c ∧ c ≤ maxLen := by
  obtain ⟨oa, cap, e1, h1, h2, h3, _⟩ := row_shape (row_base h)
  obtain ⟨g1, ⟨g2, g3⟩ | ⟨g, c, cur, e2, _⟩⟩ := h
  · left
    rw [g2] at e1
    simp only [Value.slice.injEq] at e1
    exact ⟨g2, e1.2.1.symm⟩
  · right
    rw [e2] at e1
    simp only [Value.slice.injEq] at e1
    exact ⟨g, c, e2, by omega, by omega⟩
theorem dg_zero {w : World} {b : Nat} {n : ByteArray} (h : w.heap[b]? = some (.cells #[.string n, .int .i64 0, .int .i64 0, .slice none 0 0, .slice none 0 0, .slice none 0 0, .slice none 0 0] 61)) : DgR w b n (.slice none 0 0) (.slice none 0 0) (.slice none 0 0) (.slice none 0 0) Dg.zero :=
  ⟨h, World.ownsRow_nil _ _ _ _, fun x hx => (by cases hx), by simp [Dg.zero], IL.nil _, World.ownsRow_nil _ _ _ _, World.ownsRow_nil _ _ _ _, fun x hx => (by cases hx), fun x hx => (by cases hx)⟩
theorem insX_len {es : List Ent} {i : Nat} {x : Ent} (hi : i ≤ es.length) : (insX es i x).length = es.length + 1 := by simp [insX]; omega
theorem insX_ptrs (es : List Ent) (i : Nat) (x : Ent) : ptrs (insX es i x) = (ptrs (es.take i) ++ [.pointer (some ⟨x.b, 0, none⟩)]) ++ ptrs (es.drop i) := by simp [insX, ptrs]
theorem insX_same {es : List Ent} {i : Nat} {x y : Ent} (h : x.b = y.b) : (insX es i x).length = (insX es i y).length ∧ ptrs (insX es i x) = ptrs (insX es i y) := ⟨by simp [insX], by rw [insX_ptrs, insX_ptrs, h]⟩
/-- The last append of the three is stored. -/
theorem newP_made {w0 w1 V : World} {r i B : Nat} {es : List Ent} {x : Ent} {ep : Int} {vl vl' : Value} (hc : DC w0 r vl es ep) (hb : Below w0.heap.size w0 w1) (hx : x.b = w0.heap.size) (hg : DgR w1 x.b x.n x.vm x.vp x.vo x.vn x.d)
    (hrow : w1.ownsRow B 57 1 vl' (insX es i x).length (ptrs (insX es i x))) (hB : w0.heap.size < B) (hm : x.vm = .slice none 0 0) (hp : x.vp = .slice none 0 0) (ho : x.vo = .slice none 0 0) (hn : x.vn = .slice none 0 0) (hd : x.d.parts = [])
    (hV : V = w1.setCell ⟨r, 0, none⟩ vl') : NewP w0 V r vl' es i x ep := by
  have hrl : r < w0.heap.size := (Array.getElem?_eq_some_iff.1 hc.cells).1
  have hk : Keeps (fun k => k = r) w1 V := by rw [hV]; exact Keeps.set (S := fun k => k = r) w1 (a := ⟨r, 0, none⟩) rfl _
  have hcr : w1.heap[r]? = some (.cells #[vl, .int .i64 ep] 29) := (hb.block r hrl).trans hc.cells
  have hgb : ∀ k, vl'.ownBlock = some k → B ≤ k := fun k hk => (World.ownsRow.lt hrow k hk).1
  have hsz := hb.size
  refine ⟨by omega, ?_, ?_, ?_, fun k hk' => ?_, (Keeps.of_below (S := fun k => k = r) hb).trans hk (fun k h => .inl h)⟩
  · have kb : ∀ k, k < w1.heap.size → k ≠ r → V.heap[k]? = w1.heap[k]? := fun k h1 h2 => hk.block k h1 h2
    refine ⟨(kb _ hg.lt (by omega)).trans hg.cells, ?_, hg.m64, hg.few, ?_, ?_, ?_, hg.o64, hg.n64⟩
    · exact row_kept hg.mem (fun k h => by rw [hm] at h; cases h)
    · rw [hp, hd]; exact IL.nil _
    · exact row_kept hg.offs (fun k h => by rw [ho] at h; cases h)
    · exact row_kept hg.nums (fun k h => by rw [hn] at h; cases h)
  · rw [hV]
    exact set_box (j := 0) (v := vl') hcr
  · refine row_kept (row_base hrow) (fun k h => hk.block k (row_lt (row_base hrow) h) (fun e => ?_))
    have := hgb k h
    omega
  · have := hgb k hk'
    omega
end Go.Proofs.Ytdnpbhijjmlecaa

