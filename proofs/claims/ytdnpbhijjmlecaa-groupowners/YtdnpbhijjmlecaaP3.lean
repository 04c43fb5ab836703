/- Whose a part is: of the member in whose share it stands. -/
import Derived.Test.YtdnpbhijjmlecaaL3
import Derived.Test.YtdnpbhijjmlecaaP1
namespace Go.Proofs.Ytdnpbhijjmlecaa
set_option linter.unusedSimpArgs false
set_option linter.unusedVariables false

theorem share_apart {l : List Int} (hl : l.Nodup) (k i j : Nat) (hij : i < j) (p : Int) (h1 : p ∈ shareL l k i) : p ∉ shareL l k j := by
  intro h2
  have a : p ∈ l.take (fromN l.length k (i + 1)) := by rw [take_share]; exact List.mem_append_right _ h1
  have hm : fromN l.length k (i + 1) ≤ fromN l.length k j := by
    have := from_mono l.length k (j - (i + 1)) (i + 1)
    rwa [show i + 1 + (j - (i + 1)) = j by omega] at this
  have a2 : p ∈ l.take (fromN l.length k j) := (List.take_subset_take_left l hm) a
  have b : p ∈ l.drop (fromN l.length k j) := List.mem_of_mem_take h2
  have hn : (l.take (fromN l.length k j) ++ l.drop (fromN l.length k j)).Nodup := by rw [List.take_append_drop]; exact hl
  exact (List.nodup_append.1 hn).2.2 p a2 p b rfl
theorem own_go (x : Gr) (hl : x.parts.Nodup) (p : Int) (k : Nat) (hp : p ∈ shareL x.parts x.mem.length k) (m : Mb) : ∀ (r : List Mb) (i : Nat), i ≤ k → r[k - i]? = some m → ownFrom x p i r = m.id
  | [], i, _, h => by simp at h
  | y :: r, i, hi, h => by
    unfold ownFrom
    by_cases e : i = k
    · subst e
      rw [if_pos (hasB_iff.2 hp)]
      simp at h; rw [h]
    · rw [if_neg (by rw [hasB_iff]; exact fun hh => share_apart hl _ i k (by omega) p hh hp)]
      refine own_go x hl p k hp m r (i + 1) (by omega) ?_
      rw [show k - i = (k - (i + 1)) + 1 by omega, List.getElem?_cons_succ] at h
      exact h
/-- A part that stands in a member's share is that member's. -/
theorem own_share (x : Gr) (hl : x.parts.Nodup) (k : Nat) (hk : k < x.mem.length) (p : Int) (hp : p ∈ shareL x.parts x.mem.length k) : ownerI x p = x.mem[k].id :=
  own_go x hl p k hp x.mem[k] x.mem 0 (Nat.zero_le _) (by simp [hk])
/-- Nobody: nothing is anybody's. -/
theorem own_none (x : Gr) (h : x.mem = []) (p : Int) : ownerI x p = 0 := by unfold ownerI; rw [h]; rfl
/-- The shares up to k add up. -/
theorem share_sum (l : List Int) (k : Nat) (hk : 0 < k) : fromN l.length k k = l.length := from_all _ _ hk
theorem place_at {N : Nat} {x : Gr} (h : GrOk N x) (k : Nat) (hk : k < x.mem.length) : placeN x.mem x.mem[k].id = some k := by
  have hd : ∀ (i j : Nat) (hi : i < x.mem.length) (hj : j < x.mem.length), i < j → x.mem[i].id < x.mem[j].id := fun i j hi hj hij => List.pairwise_iff_getElem.1 h.rise i j hi hj hij
  unfold placeN
  rw [List.findIdx?_eq_some_iff_getElem]
  refine ⟨hk, by simp, fun j hj => ?_⟩
  have := hd j k (by omega) hk hj
  simp; omega
/-- A member that syncs with the generation is told its share, and nothing changes. -/
theorem sync_at {N : Nat} {x : Gr} (h : GrOk N x) (k : Nat) (hk : k < x.mem.length) (m : Rc) (ha : m.a = x.mem[k].id) (hb : m.b = x.gen) : syncI x m = (x, ⟨0, m.a, x.gen, 0, shareL x.parts x.mem.length k⟩) := by
  have hp : placeN x.mem m.a = some k := by rw [ha]; exact place_at h k hk
  have hm : memE x m = 0 := by unfold memE hasM; rw [hp]; simp [hb]
  unfold syncI partsOf
  rw [hm, hp]; simp
theorem sync_all {N : Nat} {S : Gs} (h : GsOk N S) {m : Rc} {x : Gr} (hx : getG S.gs m.key = some x) (h6 : m.kind = 6) (k : Nat) (hk : k < x.mem.length) (ha : m.a = x.mem[k].id) (hb : m.b = x.gen) : applyI S m = (S, ⟨0, m.a, x.gen, 0, shareL x.parts x.mem.length k⟩) := by
  have hok : GrOk N x := (h.each _ (get_mem hx)).1
  unfold applyI askI
  rw [if_neg (by omega), if_pos (by omega), hx]
  have e1 : oneI x m = (x, ⟨0, m.a, x.gen, 0, shareL x.parts x.mem.length k⟩) := by
    unfold oneI
    rw [if_neg (by omega), if_neg (by omega), if_pos h6, sync_at hok k hk m ha hb]
  show (({ S with gs := setG S.gs m.key (oneI x m).1 } : Gs), (oneI x m).2) = _
  rw [e1]
  simp only
  rw [set_self h.names hx]
/-- What GroupOwners' rounds keep: the group, where there is one, has the partitions that were joined with. -/
def OwnP (S : Gs) (l : List Int) : Prop := ∀ x, getG S.gs [103] = some x → x.parts = l
theorem ownP_join {S : Gs} {l : List Int} (h : OwnP S l) (m : Rc) (hk : m.key = [103]) (h1 : m.kind = 1) (hl : m.list = l) : OwnP (applyI S m).1 l := by
  unfold applyI joinI
  rw [if_pos h1]
  by_cases hj : joinE S.gs m ≠ 0
  · rw [if_pos hj]; exact h
  · rw [if_neg hj]
    intro x hx
    simp only [hk] at hx
    rw [get_putG, if_pos rfl] at hx
    rw [← Option.some.inj hx]
    exact hl
theorem ownP_leave {S : Gs} {l : List Int} (h : OwnP S l) (m : Rc) (hk : m.key = [103]) (h2 : m.kind = 2) : OwnP (applyI S m).1 l := by
  unfold applyI askI
  rw [if_neg (by omega), if_pos (by omega), hk]
  cases hx : getG S.gs [103] with
  | none => exact h
  | some x =>
    intro y hy
    simp only at hy
    rw [get_setG, if_pos rfl, hx] at hy
    have e := Option.some.inj hy
    rw [← e]
    unfold oneI leaveI
    rw [if_pos h2]
    split <;> exact h x hx
end Go.Proofs.Ytdnpbhijjmlecaa
