/- All groups: one is turned, one more; New; a new member; the group of a name is found or made; Epoch; no kind. -/
import Derived.Test.YtdnpbhijjmlecaaG17
namespace Go.Proofs.Ytdnpbhijjmlecaa
open Go.RowKit Go.Maps
open Go.WideMaps (keyOf_string_mk)
set_option maxRecDepth 100000
set_option linter.unusedSimpArgs false
set_option linter.unusedVariables false

theorem names_eq : ∀ {es : List En}, es.Pairwise (fun a b => a.name ≠ b.name) → ∀ {d e : En}, d ∈ es → e ∈ es → d.name = e.name → d = e
  | x :: r, h, d, e, hd, he, hn => by
    have h' := List.pairwise_cons.1 h
    rcases List.mem_cons.1 hd with hd1 | hd1
    · rcases List.mem_cons.1 he with he1 | he1
      · rw [hd1, he1]
      · rw [hd1] at hn; exact absurd hn (h'.1 e he1)
    · rcases List.mem_cons.1 he with he1 | he1
      · rw [he1] at hn; exact absurd hn.symm (h'.1 d hd1)
      · exact names_eq h'.2 hd1 he1 hn
def turnE (e : En) (own' : Nat → Prop) (y : Gr) (d : En) : En := if d.name == e.name then ⟨d.name, d.at_, y, own'⟩ else d
theorem AllC.turn {w w1 : World} {q b : Nat} {es : List En} {S : Gs} (h : AllC w q b es S) (hnm : es.Pairwise (fun a b => a.name ≠ b.name)) {e : En} (he : e ∈ es) {own' : Nat → Prop} {y : Gr} (hk : Keeps e.own w w1) (hy : GrM w1 own' e.at_ y) (hs : ∀ k, own' k → e.own k ∨ w.heap.size ≤ k) : AllC w1 q b (es.map (turnE e own' y)) { S with gs := setG S.gs e.name y } := by
  have hq := h.qlt
  have hb := h.blt
  obtain ⟨hg, hne⟩ := h.each e he
  have hkept : ∀ d ∈ es, d ≠ e → ∀ k, d.own k → w1.heap[k]? = w.heap[k]? := fun d hd hde k hdk => by
    have hlt : k < w.heap.size := by obtain ⟨_, _, _, _, _, _, hz⟩ := (h.each d hd).1; exact hz k hdk
    refine hk.block k hlt (fun hek => ?_)
    have hsym : ∀ {L : List En}, L.Pairwise (fun d e => ∀ k, d.own k → ¬ e.own k) → ∀ {a c : En}, a ∈ L → c ∈ L → a ≠ c → ∀ k, a.own k → ¬ c.own k := by
      intro L
      induction L with
      | nil => intro _ a c ha; cases ha
      | cons x r ih =>
        intro hp a c ha hc hac k hak hck
        have hp' := List.pairwise_cons.1 hp
        rcases List.mem_cons.1 ha with ha1 | ha1
        · rcases List.mem_cons.1 hc with hc1 | hc1
          · exact hac (ha1.trans hc1.symm)
          · rw [ha1] at hak; exact hp'.1 c hc1 k hak hck
        · rcases List.mem_cons.1 hc with hc1 | hc1
          · rw [hc1] at hck; exact hp'.1 a ha1 k hck hak
          · exact ih hp'.2 ha1 hc1 hac k hak hck
    exact hsym h.apart hd he hde k hdk hek
  have hmapn : (es.map (turnE e own' y)).map (fun e => (Lit.string e.name, (DataW.held (ptr e.at_) : DataW Value))) = es.map (fun e => (Lit.string e.name, .held (ptr e.at_))) := by
    rw [List.map_map]
    apply List.map_congr_left
    intro d hd
    show (Lit.string (turnE e own' y d).name, DataW.held (ptr (turnE e own' y d).at_)) = _
    unfold turnE
    split <;> rfl
  refine ⟨(hk.block q hq (fun h => (hne q h).1 rfl)).trans h.cells, ?_, ?_, fun d' hd' => ?_, ?_⟩
  · obtain ⟨xs, clock, hm, r⟩ := h.bmap
    have : gmap (es.map (turnE e own' y)) = gmap es := by unfold gmap; rw [hmapn]
    rw [this, List.length_map]
    exact ⟨xs, clock, (hk.block b hb (fun h => (hne b h).2 rfl)).trans hm, r⟩
  · show setG S.gs e.name y = _
    rw [h.abs]
    unfold setG
    rw [List.map_map, List.map_map]
    apply List.map_congr_left
    intro d hd
    show (if d.name == e.name then (d.name, y) else (d.name, d.g)) = ((turnE e own' y d).name, (turnE e own' y d).g)
    unfold turnE
    split <;> rfl
  · obtain ⟨d, hd, rfl⟩ := List.mem_map.1 hd'
    unfold turnE
    by_cases hde : d = e
    · subst hde
      simp only [beq_self_eq_true, if_true]
      refine ⟨hy, fun k hk => ?_⟩
      rcases hs k hk with h1 | h1
      · exact hne k h1
      · omega
    · have hn : (d.name == e.name) = false := by
        simp only [beq_eq_false_iff_ne]
        exact fun hh => hde (names_eq hnm hd he hh)
      simp only [hn, Bool.false_eq_true, if_false]
      exact ⟨(h.each d hd).1.kept (hkept d hd hde) hk.size, (h.each d hd).2⟩
  · rw [List.pairwise_map]
    have hlt : ∀ d ∈ es, ∀ k, d.own k → k < w.heap.size := fun d hd k hdk => by obtain ⟨_, _, _, _, _, _, hz⟩ := (h.each d hd).1; exact hz k hdk
    refine (hnm.and h.apart).imp_of_mem (fun {d c} hd hc hdc => ?_)
    obtain ⟨hn, ha⟩ := hdc
    intro k hdk hck
    unfold turnE at hdk hck
    by_cases h1 : (d.name == e.name) = true
    · have hde : d = e := names_eq hnm hd he (by simpa using h1)
      subst hde
      have h2 : (c.name == d.name) = false := by simp only [beq_eq_false_iff_ne]; exact fun hh => hn hh.symm
      simp only [h1, if_true] at hdk
      simp only [h2, Bool.false_eq_true, if_false] at hck
      rcases hs k hdk with h3 | h3
      · exact ha k h3 hck
      · have := hlt c hc k hck; omega
    · by_cases h2 : (c.name == e.name) = true
      · have hce : c = e := names_eq hnm hc he (by simpa using h2)
        subst hce
        simp only [h1, if_false] at hdk
        simp only [h2, if_true] at hck
        rcases hs k hck with h3 | h3
        · exact ha k (by simpa using hdk) h3
        · have := hlt d hd k (by simpa using hdk); omega
      · simp only [h1, if_false] at hdk
        simp only [h2, if_false] at hck
        exact ha k (by simpa using hdk) (by simpa using hck)
theorem AllC.put {w : World} {q b : Nat} {es : List En} {S : Gs} (h : AllC w q b es S) (x : En) (hx : GrM w x.own x.at_ x.g) (hqb : ∀ k, x.own k → k ≠ q ∧ k ≠ b) (hn : ∀ e ∈ es, e.name ≠ x.name) (hap : ∀ e ∈ es, ∀ k, x.own k → ¬ e.own k) (few : es.length ≤ 1000) (n : ByteArray) (hs : n.size ≤ maxLen) (he : n.data.toList = x.name) :
    ∃ w', (Instr.mapUpdate 52 (.map (some b)) (.string n) (ptr x.at_)).run Try.prog w = .ok () w' ∧ AllC w' q b (insE x es) { S with gs := insG (x.name, x.g) S.gs } ∧ w.grownBy w' (some b) := by
  obtain ⟨w', hrun, hown, ht⟩ := h.bmap.store law9 Try.underlying52 (by unfold maxLen; omega) (keyOf_string_mk Try.underlying9 hs) (show Rg (ptr x.at_) = some (.held (ptr x.at_), []) from rfl)
  have hg := ht.grown
  have hnb : ∀ k, k ≠ b → k < w.heap.size → w'.heap[k]? = w.heap[k]? := fun k hk hl => hg.block k hl (fun e => hk (by cases e; rfl))
  have hlt : ∀ d ∈ es, ∀ k, d.own k → k < w.heap.size := fun d hd k hdk => by obtain ⟨_, _, _, _, _, _, hz⟩ := (h.each d hd).1; exact hz k hdk
  refine ⟨w', hrun, ⟨(hnb q h.ne_qb h.qlt).trans h.cells, ?_, ?_, fun d hd => ?_, ?_⟩, hg⟩
  · rw [he, gmap_put es x hn] at hown
    obtain ⟨ys, clock, hm, F, hs, e⟩ := hown
    have hl : (insE x es).length = Maps.size (gmap (insE x es)) := (gmap_size _).symm
    rw [hl, e]
    exact ⟨ys, clock, hm, F, by simp [Maps.size, length_sorted], rfl⟩
  · show insG (x.name, x.g) S.gs = _
    rw [h.abs, abs_insE]
  · rcases (mem_insE _ _ _).1 hd with rfl | hd
    · refine ⟨hx.kept (fun k hk => hnb k (hqb k hk).2 ?_) hg.size, hqb⟩
      obtain ⟨_, _, _, _, _, _, hz⟩ := hx
      exact hz k hk
    · exact ⟨(h.each d hd).1.kept (fun k hk => hnb k ((h.each d hd).2 k hk).2 (hlt d hd k hk)) hg.size, (h.each d hd).2⟩
  · exact pair_insE x _ (fun p q hpq k hq hp => hpq k hp hq) es h.apart (fun p hp => hap p hp)
set_option maxHeartbeats 800000 in
theorem new_any (w : World) : Calls Try.prog 10 #[] w fun e w' => e = .returned (ptr (w.heap.size + 1)) ∧ AllM w' (fun k => w.heap.size ≤ k ∧ k < w'.heap.size) (w.heap.size + 1) ⟨[], 0⟩ ∧ Below w.heap.size w w' := by
  have hmm := @run_makeMap Try.prog
  go_enter Try.func10, Try.ntmps10
  go_wp2_with fail
  go_ret
  have hz : (w.alloc (.map #[] 0)).heap.size = w.heap.size + 1 := by simp
  have hz2 : ((w.alloc (.map #[] 0)).alloc (.cells #[.map (some w.heap.size), .int .i64 0] 54)).heap.size = w.heap.size + 2 := by simp
  refine ⟨rfl, ⟨w.heap.size, [], ⟨?_, ?_, rfl, (fun x hx => by cases hx), List.Pairwise.nil⟩, by rw [hz2]; omega, by rw [hz2]; omega, (fun e he => by cases he), fun k hk => hk.2⟩, ((Below.refl _ _).alloc (Nat.le_refl _) _).alloc (by simp) _⟩
  · have := heap_alloc_new (w.alloc (.map #[] 0)) (.cells #[.map (some w.heap.size), .int .i64 0] 54)
    rw [hz] at this
    exact this
  · exact (World.ownsMap_made w Try.prog 9 Rg).alloc _
/-- The group of a name, which is made where there is none. -/
def madeG (gs : GL) (n : List UInt8) : GL := if (getG gs n).isSome then gs else insG (n, Gr.zero) gs
end Go.Proofs.Ytdnpbhijjmlecaa
