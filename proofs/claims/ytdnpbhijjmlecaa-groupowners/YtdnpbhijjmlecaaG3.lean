/- The ids of a group's members. -/
import Derived.Test.YtdnpbhijjmlecaaG2
namespace Go.Proofs.Ytdnpbhijjmlecaa
open Go.RowKit Go.Maps
set_option maxRecDepth 100000
set_option linter.unusedSimpArgs false
set_option linter.unusedVariables false

def idsM (ms : List Mb) : List Int := ms.map fun m => m.id
theorem ids_snoc (ms : List Mb) (k : Nat) (h : k < ms.length) : idsM (ms.take (k + 1)) = idsM (ms.take k) ++ [ms[k].id] := by
  unfold idsM; rw [List.take_succ_eq_append_getElem h, List.map_append]; rfl
set_option maxHeartbeats 3200000 in
theorem ids_any {w : World} {q : Nat} {vm vp vo : Value} {x : Gr} (h : GrR w q vm vp vo x) (hf : x.mem.length ≤ 1000) (h64 : ∀ m ∈ x.mem, I64 m.id) : Calls Try.prog 37 #[.pointer (some ⟨q, 0, none⟩)] w fun e w' => ∃ v', e = .returned v' ∧ IL w' v' (idsL x) ∧ In (fun b => w.heap.size ≤ b) v' (idsL x) ∧ Below w.heap.size w w' := by
  obtain ⟨i0, hi0, hz0, hz1, hz2⟩ := info3
  have c2 := h.c2
  have hq := h.lt
  have HI := hid h
  obtain ⟨oa, cap, rfl, hcap, hcm, hnn, hat⟩ := row_shape h.mem
  have HA := hid hat
  have H64 := hid h64
  clear hat h h64 hnn hcap hcm
  go_enter Try.func37, Try.ntmps37
  go_wp2_with fail
  go_loopg [3, 11] x.mem.length (fun kx s3 s11 wr => ∃ k : Nat, k ≤ x.mem.length ∧ x.mem.length - k ≤ kx ∧ s11 = .int .i64 (k : Int) ∧ Hid (wr.ownsRow w.heap.size 3 1 s3 (idsM (x.mem.take k)).length (vals (idsM (x.mem.take k))) ∧ Below w.heap.size w wr) ∧ (∃ a n c, s3 = .slice a n c))
  case atStart => exact ⟨0, Nat.zero_le _, by omega, rfl, ⟨World.ownsRow_nil _ _ _ _, Below.refl _ _⟩, ⟨_, _, _, rfl⟩⟩
  case round =>
    obtain ⟨k, hk, hkx, rfl, HR, ⟨a1, n1, c1, rfl⟩⟩ := hrel
    by_cases hlt : k < x.mem.length
    · obtain ⟨g, rfl⟩ := HA.out (by omega)
      have hx : x.mem[k]? = some x.mem[k] := List.getElem?_eq_getElem hlt
      obtain ⟨k0, k1⟩ := row_mem (HI.out.under HR.out.2).mem k _ hx
      have HS := hid (ids_snoc x.mem k hlt)
      have HY := hid (H64.out x.mem[k] (by simp))
      have hn1 : (idsM (x.mem.take k)).length ≤ k := by simp [idsM]; omega
      have hlt' : (k : Int) < (x.mem.length : Int) := by omega
      generalize x.mem[k] = m at *
      clear hx
      obtain ⟨y, z⟩ := m
      have HB1 : Hid (Below w.heap.size w (wr.alloc (.cells #[.int .i64 y, .int .i64 z] 84))) := HR.out.2.alloc HR.out.2.size _
      have HX : Hid (((wr.alloc (.cells #[.int .i64 y, .int .i64 z] 84)).alloc (.cells #[.int .i64 y] 3)).ownsRow w.heap.size 3 1 (.slice a1 n1 c1) (idsM (x.mem.take k)).length (vals (idsM (x.mem.take k)))) := (HR.out.1.alloc _).alloc _
      have HN1 : Hid (∀ j u, ([.int .i64 y] : List Value)[j]? = some u → ((wr.alloc (.cells #[.int .i64 y, .int .i64 z] 84)).alloc (.cells #[.int .i64 y] 3)).cell? ((⟨wr.heap.size + 1, 0, none⟩ : Addr).add j) = some u) := fun j u hu => by
        cases j with
        | zero => simp at hu; subst hu; rw [add_at]; exact cell_blk (by have := heap_alloc_new (wr.alloc (.cells #[.int .i64 y, .int .i64 z] 84)) (.cells #[.int .i64 y] 3); simpa using this) 0 _ rfl
        | succ j => simp at hu
      have HO1 : Hid (∀ u ∈ ([.int .i64 y] : List Value), u.oneCell' = true) := fun u hu => by simp at hu; subst hu; rfl
      have hbs := HR.out.2.size
      have HB2 : Hid (Below w.heap.size w ((wr.alloc (.cells #[.int .i64 y, .int .i64 z] 84)).alloc (.cells #[.int .i64 y] 3))) := HB1.out.alloc (by simp; omega) _
      go_wp2_with (at_builtin; go_loud (refine wpList_append_own_at _ rfl _ _ 30 rfl w.heap.size 3 i0 _ 1 8 Try.underlying30 hi0 hz0 hz1 hz2 rfl (by decide) _ (idsM (x.mem.take k)).length _ rfl HX.out ⟨wr.heap.size + 1, 0, none⟩ 1 1 [.int .i64 y] rfl rfl HN1.out HO1.out (by first | omega | (unfold maxLen; omega)) (by first | omega | (unfold maxLen; omega)) (by simp; omega) ?_); intro v2 w2 hown2 hg2 _ hat2)
      have hsh : ∃ a n c, v2 = .slice a n c := own_shape hown2
      obtain ⟨a2, n2, c2', rfl⟩ := hsh
      have HB3 : Hid (Below w.heap.size w w2) := HB2.out.grown hg2 HB2.out.size (fun j hj => (World.ownsRow.lt HX.out j hj).1)
      have HW2 := hid hown2
      clear hown2 hg2 hat2
      go_wp2_with fail
      go_roundg (x.mem.length - (k + 1))
      case measure => omega
      case rel => exact ⟨k + 1, by omega, Nat.le_refl _, by go_num, ⟨by rw [HS.out]; simp only [List.length_append, List.length_cons, List.length_nil, Nat.zero_add, vals, List.map_append, List.map_cons, List.map_nil]; exact HW2.out, HB3.out⟩, ⟨_, _, _, rfl⟩⟩
    · have hlt' : ¬ (k : Int) < (x.mem.length : Int) := by omega
      go_wp2_with fail
      go_ret
      have hr := HR.out
      rw [List.take_of_length_le (by omega)] at hr
      have hlm : (idsM x.mem).length = x.mem.length := by simp [idsM]
      exact ⟨_, rfl, IL.of hr.1 (fun y hy => by obtain ⟨m, hm, rfl⟩ := List.mem_map.1 hy; exact H64.out m hm) (by show (idsM x.mem).length ≤ _; omega), in_own hr.1, hr.2⟩
end Go.Proofs.Ytdnpbhijjmlecaa
