/- What Clone does. -/
import Derived.Test.YtlgaianlkbaedaaH13
import Derived.Deep.RegionWith
import Derived.Deep.RegionHeld3
namespace Go.Proofs.Ytlgaianlkbaedaa
open Go.RowKit Go.Maps Go.Sort
set_option maxRecDepth 100000
set_option linter.unusedSimpArgs false
set_option linter.unusedVariables false

theorem sorted_ext : ∀ (l m : List AF), l.Pairwise (fun x y => bytesBefore x.name y.name = true) → m.Pairwise (fun x y => bytesBefore x.name y.name = true) → (∀ x, x ∈ l ↔ x ∈ m) → l = m
  | [], [], _, _, _ => rfl
  | [], y :: s, _, _, h => by have := (h y).2 (by simp); cases this
  | x :: r, [], _, _, h => by have := (h x).1 (by simp); cases this
  | x :: r, y :: s, hl, hm, h => by
    have hl' := List.pairwise_cons.1 hl
    have hm' := List.pairwise_cons.1 hm
    have hxy : x = y := by
      rcases List.mem_cons.1 ((h x).1 (by simp)) with e | hx
      · exact e
      · rcases List.mem_cons.1 ((h y).2 (by simp)) with e | hy
        · exact e.symm
        · have a1 := hm'.1 x hx
          have a2 := hl'.1 y hy
          rw [before_asymm a1] at a2
          cases a2
    subst hxy
    refine congrArg _ (sorted_ext r s hl'.2 hm'.2 (fun z => ?_))
    constructor
    · intro hz
      rcases List.mem_cons.1 ((h z).1 (by simp [hz])) with e | h2
      · exact absurd (by rw [e]) (before_ne (hl'.1 z hz))
      · exact h2
    · intro hz
      rcases List.mem_cons.1 ((h z).2 (by simp [hz])) with e | h2
      · exact absurd (by rw [e]) (before_ne (hm'.1 z hz))
      · exact h2

theorem DiskM.rising_abs {w : World} {S : Nat → Prop} {a size : Nat} {mo : Option Nat} {fs : List (List UInt8 × FileE)} (h : DiskM w S a size mo fs) : (abs fs).Pairwise (fun x y => bytesBefore x.name y.name = true) := by
  unfold abs
  rw [List.pairwise_map]
  exact h.rising

def Ag (fc fs : List (List UInt8 × FileE)) (left : Lit → Bool) : Prop := ∀ x : AF, x ∈ abs fc ↔ (x ∈ abs fs ∧ left (.string x.name) = false)

theorem mem_abs {fs : List (List UInt8 × FileE)} {x : AF} : x ∈ abs fs ↔ ∃ p ∈ fs, absE p = x := by simp [abs]

theorem Ag.step {fc fs : List (List UInt8 × FileE)} {left : Lit → Bool} (h : Ag fc fs left) (hk : fs.Pairwise (fun p q => p.1 ≠ q.1)) {n : List UInt8} {f g : FileE} (hf : (n, f) ∈ fs) (hl : left (.string n) = true) (hg : absE (n, g) = absE (n, f)) :
    Ag (fput fc n g) fs (fun z => left z && !z.sameKey (.string n)) := by
  intro x
  have hone : ∀ p ∈ fs, p.1 = n → p = (n, f) := fun p hp he => by
    have h1 := flook_of_mem hk hp
    have h2 := flook_of_mem hk hf
    simp only at h2
    rw [he, h2] at h1
    exact Prod.ext he (Option.some.inj h1).symm
  rw [mem_abs]
  simp only [sk]
  constructor
  · rintro ⟨p, hp, rfl⟩
    rcases (mem_fput _ _ _ _).1 hp with rfl | ⟨hp, hne⟩
    · refine ⟨mem_abs.2 ⟨(n, f), hf, hg.symm⟩, ?_⟩
      simp [absE]
    · have := (h (absE p)).1 (mem_abs.2 ⟨p, hp, rfl⟩)
      exact ⟨this.1, by simp [this.2]⟩
  · rintro ⟨hx, hl2⟩
    obtain ⟨p, hp, rfl⟩ := mem_abs.1 hx
    by_cases he : p.1 = n
    · have := hone p hp he
      subst this
      exact ⟨(n, g), (mem_fput _ _ _ _).2 (.inl rfl), hg⟩
    · have hne : ((absE p).name == n) = false := by simpa [absE] using he
      rw [hne] at hl2
      simp at hl2
      obtain ⟨q, hq, he2⟩ := mem_abs.1 ((h (absE p)).2 ⟨hx, hl2⟩)
      refine ⟨q, (mem_fput _ _ _ _).2 (.inr ⟨hq, fun e => he ?_⟩), he2⟩
      have := congrArg AF.name he2
      simp only [absE] at this
      rw [← this]; exact e

theorem Ag.fresh {fc fs : List (List UInt8 × FileE)} {left : Lit → Bool} (h : Ag fc fs left) {n : List UInt8} (hl : left (.string n) = true) : ∀ p ∈ fc, p.1 ≠ n := fun p hp e => by
  have := ((h (absE p)).1 (mem_abs.2 ⟨p, hp, rfl⟩)).2
  simp only [absE] at this
  rw [e, hl] at this
  cases this

/-- A round of Clone: what is asked of the callees. -/
theorem clone_copy {w wr W : World} {S Sc : Nat → Prop} {a ca size : Nat} {mo mc : Option Nat} {fs fc : List (List UInt8 × FileE)} (hw : DiskM w S a size mo fs) (hwr : Below w.heap.size w wr) (hc : DiskM wr Sc ca size mc fc) (hW : Below wr.heap.size wr W)
    {n : ByteArray} (hn : n.size ≤ maxLen) {oa : Option Addr} {cap : Nat} {bs : List UInt8} {safe : Nat} (hm : (n.data.toList, (⟨.slice oa bs.length cap, bs, safe⟩ : FileE)) ∈ fs) (hfr : ∀ p ∈ fc, p.1 ≠ n.data.toList) (hroom : bs.length + total fc ≤ size) (hfew : fc.length < 256) :
    Calls Try.prog 37 #[.slice oa bs.length cap] W fun e w' => ∃ v, e = .returned v ∧ (∃ oa l c, v = .slice oa l c) ∧ Below W.heap.size W w' ∧
      Calls Try.prog 36 #[.pointer (some ⟨ca, 0, none⟩), .string n, .agg #[v, .int .i64 (safe : Int)]] w' fun e w'' => e = .returned (.tuple #[]) ∧ After Sc wr w'' ca size (fput fc n.data.toList ⟨v, bs, safe⟩) ∧ ∀ k, k < W.heap.size → ¬ Sc k → w''.heap[k]? = W.heap[k]? := by
  obtain ⟨hB, hsafe⟩ := hw.owns _ hm
  simp only at hB hsafe
  have hbl : bs.length ≤ 16777216 := by have := hc.small; omega
  have hwW : Below w.heap.size w W := hwr.trans (hW.mono hwr.size)
  have hBW : BytesAt W S (.slice oa bs.length cap) bs := hB.kept (fun _ hk => hk) (fun k hk => hwW.block k (hB.lt k hk).2)
  have hsrc : Src W oa bs ∧ (oa = none → cap = 0) := by
    rcases hB with ⟨e, rfl⟩ | ⟨g, cap', cur, mk, e, _⟩
    · cases e; exact ⟨.inl ⟨rfl, rfl⟩, fun _ => rfl⟩
    · cases e; exact ⟨.inr ⟨g, rfl, fun i hi => hBW.cell i hi⟩, fun e => by cases e⟩
  refine (copied_any W oa cap bs hsrc.1 hbl hsrc.2).mono (fun e w' ⟨v, h1, h2, h3⟩ => ?_)
  have hW' : Below wr.heap.size wr w' := hW.trans (h3.mono hW.size)
  have hshv : ∃ oa l c, v = .slice oa l c := by obtain ⟨oa, c, e⟩ := h2.shape; exact ⟨oa, _, c, e⟩
  refine ⟨v, h1, hshv, h3, ?_⟩
  have hd : DiskM w' (fun k => Sc k ∨ (W.heap.size ≤ k ∧ k < w'.heap.size)) ca size mc fc := (hc.under hW').more (fun k hk => .inl hk) (fun k hk => by
    rcases hk with hk | hk
    · have := hc.below k hk; have := hW'.size; omega
    · exact hk.2)
  have hfd := fdel_of_ne n.data.toList fc hfr
  have := put_any hd n hn ⟨v, bs, safe⟩ (h2.kept (fun k hk => .inr hk) (fun _ _ => rfl)) hsafe
    (fun p hp hne k hk hq => by
      have h4 := ((hc.owns p hp).1.lt k hq).2
      have h5 := (h2.lt k hk).1.1
      have := hW.size
      omega) (by rw [total_fput, hfd]; exact hroom) (by rw [len_fput, hfd]; omega)
  refine this.mono (fun e w'' ⟨h1, h2⟩ => ⟨h1, ?_, fun k hk hS => ?_⟩)
  · refine After.then (Keeps.of_below hW') (fun k hk => ?_) (fun k hk => .inl hk) h2
    rcases hk with hk | hk
    · exact .inl hk
    · exact .inr (by have := hW.size; omega)
  · obtain ⟨_, _, _, _, _, hkp⟩ := h2
    exact (hkp.block k (Nat.lt_of_lt_of_le hk h3.size) (fun h => by rcases h with h | h; exact hS h; omega)).trans (h3.block k hk)

theorem disk_made (w : World) (size : Nat) (hs : size ≤ 16777216) : DiskM (w.alloc (.cells #[.int .i64 (size : Int), .map none] 58)) (fun k => k = w.heap.size) w.heap.size size none [] :=
  ⟨fun k hk => by rw [hk]; simp, rfl, heap_alloc_new w _, rfl, (fun b e => by cases e), (fun p hp => by cases hp), List.Pairwise.nil, Nat.zero_le _, hs, by simp⟩

set_option maxHeartbeats 400000 in
theorem clone_none {w : World} {S : Nat → Prop} {a size : Nat} {fs : List (List UInt8 × FileE)} (h : DiskM w S a size none fs) :
    Calls Try.prog 20 #[.pointer (some ⟨a, 0, none⟩)] w fun e w' => e = .returned (.pointer (some ⟨w.heap.size, 0, none⟩)) ∧ ∃ S' mo' fs', DiskM w' S' w.heap.size size mo' fs' ∧ abs fs' = abs fs ∧ (∀ k, S' k → w.heap.size ≤ k) ∧ Below w.heap.size w w' := by
  have hal := h.below a h.self
  have c0 := h.c0
  have c1 : ∀ o, (w.alloc o).cell? ⟨a, 1, none⟩ = some (.map none) := fun o => (World.cell?_of_block (a := ⟨a, 1, none⟩) (Below.heap_alloc w o a hal)).trans h.c1
  have hfs : fs = [] := h.files
  have hsm := h.small
  subst hfs
  clear h
  have hrg := run_range_nilMap (P := Try.prog) (w.alloc (.cells #[.int .i64 (size : Int), .map none] 58)) 56 9 77 Try.underlying56
  have hnx : ∀ ty, (Instr.next (.pointer (some ⟨(w.alloc (.cells #[.int .i64 (size : Int), .map none] 58)).heap.size, 0, none⟩)) false ty).run Try.prog ((w.alloc (.cells #[.int .i64 (size : Int), .map none] 58)).alloc (.mapIter none 0 #[] 0)) = _ := fun ty => run_next_nilMap _ ty 0 0 #[]
  have e1 : (w.alloc (.cells #[.int .i64 (size : Int), .map none] 58)).heap.size = w.heap.size + 1 := by simp
  rw [e1] at hrg hnx
  go_enter Try.func20, Try.ntmps20
  go_wp2
  refine wp_loop_rounds 1 ?_
  rw [rounds_succ]
  go_wp2
  go_ret
  have hb : Below w.heap.size w ((w.alloc (.cells #[.int .i64 (size : Int), .map none] 58)).alloc (.mapIter none 0 #[] 0)) := ((Below.refl _ _).alloc (Nat.le_refl _) _).alloc (by simp) _
  exact ⟨rfl, _, none, [], (disk_made w size hsm).under ((Below.refl _ _).alloc (Nat.le_refl _) _), rfl, fun k hk => by rw [hk]; exact Nat.le_refl _, hb⟩

set_option maxHeartbeats 1600000 in
theorem clone_some {w : World} {S : Nat → Prop} {a size b : Nat} {fs : List (List UInt8 × FileE)} (h : DiskM w S a size (some b) fs) :
    Calls Try.prog 20 #[.pointer (some ⟨a, 0, none⟩)] w fun e w' => e = .returned (.pointer (some ⟨w.heap.size, 0, none⟩)) ∧ ∃ S' mo' fs', DiskM w' S' w.heap.size size mo' fs' ∧ abs fs' = abs fs ∧ (∀ k, S' k → w.heap.size ≤ k) ∧ Below w.heap.size w w' := by
  have hal := h.below a h.self
  have c0 := h.c0
  have c1 : ∀ o, (w.alloc o).cell? ⟨a, 1, none⟩ = some (.map (some b)) := fun o => (World.cell?_of_block (a := ⟨a, 1, none⟩) (Below.heap_alloc w o a hal)).trans h.c1
  have hown : w.ownsMap Try.prog 9 Rh b fs.length (dmap fs) := h.files
  have hbl := hown.lt
  have hkeys := h.keys
  have hof := h.of_at
  have hfew := h.few
  have hroom := h.room
  have hsm := h.small
  have e1 : (w.alloc (.cells #[.int .i64 (size : Int), .map none] 58)).heap.size = w.heap.size + 1 := by simp
  have HD : Hid (DiskM w S a size (some b) fs) := h
  clear h
  go_enter Try.func20, Try.ntmps20
  go_wp2_with (first
    | (at_range; refine wpList_range_own _ rfl _ 56 rfl 9 77 law9 Try.underlying56 _ b fs.length _ rfl (hown.alloc _) ?_; intro w0 hrg0 hg0 hs0)
    | go_in)
  go_frame
  rw [e1] at hrg0 hs0 ⊢
  go_loopw [4] (fun _ wr => ∃ (left : Lit → Bool) (cnt : Nat) (Sc : Nat → Prop) (mc : Option Nat) (fc : List (List UInt8 × FileE)), wr.ranges Try.prog 9 Rh b (w.heap.size + 1) fs.length (dmap fs) left cnt ∧
      Hid (DiskM wr Sc w.heap.size size mc fc ∧ (∀ k, Sc k → w.heap.size ≤ k ∧ k ≠ w.heap.size + 1) ∧ Ag fc fs left ∧ total fc = doneB left fs ∧ fc.length + cnt ≤ fs.length) ∧ Below w.heap.size w wr ∧ w.heap.size + 1 < wr.heap.size)
    (fun _ wr => wr.rangeLeft b (w.heap.size + 1))
  case atStart =>
    have hall : ∀ p ∈ fs, Maps.has (dmap fs) (.string p.1) = true := fun p hp => by rw [dmap_has]; exact flook_isSome_iff.2 ⟨p, hp, rfl⟩
    have hb0 : Below w.heap.size w w0 := ((Below.refl _ _).alloc (Nat.le_refl _) _).grown hg0 (by simp) (fun j hj => by cases hj)
    refine ⟨_, _, fun k => k = w.heap.size, none, [], hrg0, ⟨(disk_made w size hsm).kept (fun k hk => hg0.block k (by rw [hk]; simp) (by simp)) hg0.size, fun k hk => by omega, fun x => ?_, ?_, ?_⟩, hb0, by omega⟩
    · constructor
      · intro hx; cases hx
      · rintro ⟨hx, hl⟩
        obtain ⟨p, hp, rfl⟩ := mem_abs.1 hx
        rw [show (absE p).name = p.1 from rfl, hall p hp] at hl
        cases hl
    · rw [doneB_start _ fs hall]; rfl
    · rw [dmap_size]; simp
  case round =>
    obtain ⟨left, cnt, Sc, mc, fc, hrg, hI, hnx, hsz⟩ := hrel
    go_wp2_with (first
      | (at_next; refine wpList_next_ranges _ rfl _ rfl 9 law9 Rh encStr (fun c : Option Addr × Nat × Nat × Int => Value.agg #[.slice c.1 c.2.1 c.2.2.1, .int .i64 c.2.2.2]) (fun key kl hkey => by obtain ⟨x, rfl, _⟩ := Maps.keyOf_str Try.underlying9 hkey; exact ⟨_, rfl⟩) (fun v y hv => (Rh_inv hv).1) b (w.heap.size + 1) fs.length (dmap fs) left cnt rfl hrg ?_ ?_)
      | go_in)
    · intro hc0 hl0
      go_wp2
      go_ret
      obtain ⟨hd, hS, hag, ht, hcn⟩ := hI.out
      refine ⟨rfl, Sc, mc, fc, hd, sorted_ext _ _ hd.rising_abs HD.out.rising_abs (fun x => ?_), fun k hk => (hS k hk).1, hnx⟩
      rw [hag x]
      simp [hl0]
    · intro x oa l cap sf kl y1 y2 w1 cnt1 hkey hlx hRy hat hrg1 hlt hg1 hs1 hen
      obtain ⟨x', hx', hkl, hxl⟩ := Maps.keyOf_str Try.underlying9 hkey
      cases encStr_inj hx'
      subst hkl
      have hy := (Rh_inv hRy).2
      simp only [Prod.mk.injEq] at hy
      obtain ⟨f, hm, hv, hl⟩ := hof x (oa, l, cap, sf) (fun zd => (hat zd).trans hy.1)
      obtain ⟨sv, bs, safe⟩ := f
      simp only at hl
      have hv2 : sv = .slice oa bs.length cap ∧ (safe : Int) = sf := by
        unfold FileE.val mkF at hv
        simp only [Value.agg.injEq] at hv
        have h1 := congrArg (fun z : Array Value => z[0]?) hv
        have h2 := congrArg (fun z : Array Value => z[1]?) hv
        simp at h1 h2
        exact ⟨by rw [h1, hl], h2⟩
      obtain ⟨rfl, rfl⟩ := hv2
      subst hl
      have hen' : (Instr.entry (.pointer (some ⟨w.heap.size + 1, 0, none⟩))).run Try.prog w1 = .ok (.tuple #[.string ⟨x.toArray⟩, .agg #[.slice oa bs.length cap, .int .i64 (safe : Int)]]) w1 := hen
      have hnx1 : Below w.heap.size w w1 := hnx.grown hg1 hnx.size (fun j hj => by cases hj; omega)
      obtain ⟨hd, hS, hag, ht, hcn⟩ := hI.out
      have hd1 : DiskM w1 Sc w.heap.size size mc fc := hd.kept (fun k hk => hg1.block k (hd.below k hk) (by have := (hS k hk).2; simpa using this)) (by omega)
      have hstep := doneB_step left x _ fs hkeys hm hlx
      have hle2 := doneB_le (fun z => left z && !z.sameKey (.string x)) fs
      have HCp : Hid (∀ W, Below w1.heap.size w1 W → Calls Try.prog 37 #[.slice oa bs.length cap] W fun e w' => ∃ v, e = .returned v ∧ (∃ oa l c, v = .slice oa l c) ∧ Below W.heap.size W w' ∧
          Calls Try.prog 36 #[.pointer (some ⟨w.heap.size, 0, none⟩), .string ⟨x.toArray⟩, .agg #[v, .int .i64 (safe : Int)]] w' fun e w'' => e = .returned (.tuple #[]) ∧ After Sc w1 w'' w.heap.size size (fput fc x ⟨v, bs, safe⟩) ∧ ∀ k, k < W.heap.size → ¬ Sc k → w''.heap[k]? = W.heap[k]?) := by
        intro W hW
        exact clone_copy HD.out hnx1 hd1 hW (n := ⟨x.toArray⟩) (by simpa [ByteArray.size] using hxl) (cap := cap) (safe := safe) hm (hag.fresh hlx) (by simp only at hstep; omega) (by omega)
      have HI : Hid (DiskM w1 Sc w.heap.size size mc fc ∧ (∀ k, Sc k → w.heap.size ≤ k ∧ k ≠ w.heap.size + 1) ∧ Ag fc fs left ∧ total fc = doneB left fs ∧ fc.length + cnt ≤ fs.length) := ⟨hd1, hS, hag, ht, hcn⟩
      have HS : Hid (doneB (fun z => left z && !z.sameKey (.string x)) fs = doneB left fs + bs.length) := hstep
      have HM : Hid ((x, (⟨.slice oa bs.length cap, bs, safe⟩ : FileE)) ∈ fs) := hm
      have HLx : Hid (left (.string x) = true) := hlx
      have HS1 : Hid (w1.heap.size = wr.heap.size) := hs1
      clear hen hstep hat hv hy hRy hkey hx' hof hle2 hd hS hag ht hcn hI hm hd1 hlx hs1
      go_wp2
      have hnS : ¬ Sc w1.heap.size := fun hS => by have := HI.out.1.below _ hS; omega
      go_region_held3 (fun w' => w'.cell? ⟨w1.heap.size, 0, none⟩ = some (.slice oa bs.length cap) ∧ w'.cell? ⟨w1.heap.size, 1, none⟩ = some (.int .i64 (safe : Int)))
        (first | exact ⟨hcC, hcD⟩ | exact ⟨hcA, hcB⟩ | (constructor <;> simp))
        (first
        | (go_at_call 37; refine (HCp.out _ (((Below.refl _ _).alloc (Nat.le_refl _) _).drew)).mono ?_; rintro e w2 ⟨v, rfl, ⟨oa2, l2, c2, rfl⟩, hb2, hput⟩; have hcA : w2.cell? ⟨w1.heap.size, 0, none⟩ = some (.slice oa bs.length cap) := (hb2.cell (p := ⟨w1.heap.size, 0, none⟩) (by simp)).trans (by simp); have hcB : w2.cell? ⟨w1.heap.size, 1, none⟩ = some (.int .i64 (safe : Int)) := (hb2.cell (p := ⟨w1.heap.size, 1, none⟩) (by simp)).trans (by simp); have HPut : Hid (Calls Try.prog 36 #[.pointer (some ⟨w.heap.size, 0, none⟩), .string ⟨x.toArray⟩, .agg #[.slice oa2 l2 c2, .int .i64 (safe : Int)]] w2 fun e w'' => e = .returned (.tuple #[]) ∧ After Sc w1 w'' w.heap.size size (fput fc x ⟨.slice oa2 l2 c2, bs, safe⟩) ∧ ∀ k, k < (w1.alloc (Obj.cells #[.slice oa bs.length cap, .int .i64 (safe : Int)] 77)).drew.heap.size → ¬ Sc k → w''.heap[k]? = (w1.alloc (Obj.cells #[.slice oa bs.length cap, .int .i64 (safe : Int)] 77)).drew.heap[k]?) := hput; clear hput)
        | (go_at_call 36; refine HPut.out.mono ?_; rintro e w3 ⟨rfl, hA, hbx⟩; have hcC : w3.cell? ⟨w1.heap.size, 0, none⟩ = some (.slice oa bs.length cap) := (World.cell?_of_block (a := ⟨w1.heap.size, 0, none⟩) (hbx w1.heap.size (by simp) hnS)).trans (by simp); have hcD : w3.cell? ⟨w1.heap.size, 1, none⟩ = some (.int .i64 (safe : Int)) := (World.cell?_of_block (a := ⟨w1.heap.size, 1, none⟩) (hbx w1.heap.size (by simp) hnS)).trans (by simp)))
      obtain ⟨S2, mc2, hd2, g1, g2, g3⟩ := hA
      have hsz1 := HS1.out
      have hrg3 : w3.ranges Try.prog 9 Rh b (w.heap.size + 1) fs.length (dmap fs) (fun z => left z && !z.sameKey (.string x)) cnt1 := by
        have hSc := HI.out.2.1
        obtain ⟨es, clock, since, seen, c0, hb, F, hs, hD, hr, rest⟩ := hrg1
        exact ⟨es, clock, since, seen, c0, (g3.block b (by omega) (fun h => by have := (hSc b h).1; omega)).trans hb, F, hs, hD, (g3.block (w.heap.size + 1) (by omega) (fun h => (hSc _ h).2 rfl)).trans hr, rest⟩
      have HG : Hid (Keeps Sc w1 w3 ∧ DiskM w3 S2 w.heap.size size mc2 (fput fc x ⟨.slice oa2 l2 c2, bs, safe⟩) ∧ ∀ k, S2 k → Sc k ∨ w1.heap.size ≤ k) := ⟨g3, hd2, g1⟩
      clear hd2 g1 g2 g3 hsz1 hcA hcB hcC hcD hbx hb2
      go_wp2
      go_roundw
      case rel =>
        obtain ⟨hd1, hSc, hag, ht, hcn⟩ := HI.out
        obtain ⟨g3, hd2, g1⟩ := HG.out
        have hsz1 := HS1.out
        have hfd := fdel_of_ne x fc (hag.fresh HLx.out)
        refine ⟨_, cnt1, S2, mc2, _, hrg3, ⟨hd2, fun k hk => ?_, hag.step hkeys HM.out HLx.out rfl, ?_, ?_⟩, hnx1.trans (g3.below (by omega) (fun k hk => (hSc k hk).1)), by have := g3.size; omega⟩
        · rcases g1 k hk with h | h
          · exact hSc k h
          · exact ⟨by omega, by omega⟩
        · rw [total_fput, hfd, HS.out, ht]; simp only; omega
        · rw [len_fput, hfd]; omega
      case measure => rw [hrg3.left_eq, hrg.left_eq]; exact hlt

theorem dclone_any {w : World} {S : Nat → Prop} {a size : Nat} {mo : Option Nat} {fs : List (List UInt8 × FileE)} (h : DiskM w S a size mo fs) :
    Calls Try.prog 20 #[.pointer (some ⟨a, 0, none⟩)] w fun e w' => e = .returned (.pointer (some ⟨w.heap.size, 0, none⟩)) ∧ ∃ S' mo' fs', DiskM w' S' w.heap.size size mo' fs' ∧ abs fs' = abs fs ∧ (∀ k, S' k → w.heap.size ≤ k) ∧ Below w.heap.size w w' := by
  cases mo with
  | none => exact clone_none h
  | some b => exact clone_some h
end Go.Proofs.Ytlgaianlkbaedaa

/- Each call of a disk, said of names, bytes and safe numbers alone. -/
namespace Go.Proofs.Ytlgaianlkbaedaa
open Go.RowKit Go.Maps Go.Sort
set_option maxRecDepth 100000
set_option linter.unusedSimpArgs false
set_option linter.unusedVariables false

def ains (x : AF) : List AF → List AF
  | [] => [x]
  | y :: r => if bytesBefore x.name y.name then x :: y :: r else y :: ains x r
def adel (l : List AF) (n : List UInt8) : List AF := l.filter fun x => !(x.name == n)
def aput (l : List AF) (x : AF) : List AF := ains x (adel l x.name)
def alook (l : List AF) (n : List UInt8) : Option AF := l.find? fun x => x.name == n
def abytes (l : List AF) (n : List UInt8) : List UInt8 := match alook l n with | some x => x.bs | none => []
def asafe (l : List AF) (n : List UInt8) : Nat := match alook l n with | some x => x.safe | none => 0

theorem abs_fins (x : List UInt8 × FileE) : ∀ fs : List (List UInt8 × FileE), abs (fins x fs) = ains (absE x) (abs fs)
  | [] => rfl
  | y :: r => by
    have ih := abs_fins x r
    unfold abs at ih ⊢
    unfold fins
    simp only [List.map_cons, ains]
    by_cases h : bytesBefore x.1 y.1 = true
    · simp only [h, if_true, show bytesBefore (absE x).name (absE y).name = true from h, List.map_cons]
    · have h2 : ¬ bytesBefore (absE x).name (absE y).name = true := h
      simp only [h, h2, Bool.false_eq_true, if_false, List.map_cons, ih]

theorem abs_fdel (n : List UInt8) : ∀ fs : List (List UInt8 × FileE), abs (fdel fs n) = adel (abs fs) n
  | [] => rfl
  | y :: r => by
    have ih := abs_fdel n r
    unfold abs fdel adel at ih ⊢
    simp only [List.filter_cons, List.map_cons, show (absE y).name = y.1 from rfl]
    split <;> simp [ih]

theorem abs_fput (fs : List (List UInt8 × FileE)) (n : List UInt8) (f : FileE) : abs (fput fs n f) = aput (abs fs) ⟨n, f.bs, f.safe⟩ := by
  unfold fput aput
  rw [abs_fins, abs_fdel]
  rfl

theorem alook_abs (n : List UInt8) : ∀ fs : List (List UInt8 × FileE), alook (abs fs) n = (flook fs n).map fun f => ⟨n, f.bs, f.safe⟩
  | [] => rfl
  | y :: r => by
    have ih := alook_abs n r
    unfold alook flook abs at ih ⊢
    simp only [List.map_cons, List.find?_cons, show (absE y).name = y.1 from rfl]
    cases h : (y.1 == n)
    · exact ih
    · simp at h
      simp [absE, h]

theorem abytes_abs (fs : List (List UInt8 × FileE)) (n : List UInt8) : abytes (abs fs) n = bsAt fs n := by
  unfold abytes bsAt
  rw [alook_abs]
  cases flook fs n <;> rfl
theorem asafe_abs (fs : List (List UInt8 × FileE)) (n : List UInt8) : asafe (abs fs) n = safeAt fs n := by
  unfold asafe safeAt
  rw [alook_abs]
  cases flook fs n <;> rfl
theorem asome_abs (fs : List (List UInt8 × FileE)) (n : List UInt8) : (alook (abs fs) n).isSome = (flook fs n).isSome := by
  rw [alook_abs]
  cases flook fs n <;> rfl

/-- A disk with such files. -/
def DiskA (w : World) (S : Nat → Prop) (a size : Nat) (l : List AF) : Prop := ∃ mo fs, DiskM w S a size mo fs ∧ abs fs = l

/-- What a call leaves. -/
def AfterA (S : Nat → Prop) (w w' : World) (a size : Nat) (l : List AF) : Prop :=
  ∃ S', DiskA w' S' a size l ∧ (∀ k, S' k → S k ∨ w.heap.size ≤ k) ∧ (∀ k, S k → S' k) ∧ Keeps S w w'

theorem After.abs' {S : Nat → Prop} {w w' : World} {a size : Nat} {fs : List (List UInt8 × FileE)} {l : List AF} (h : After S w w' a size fs) (e : abs fs = l) : AfterA S w w' a size l := by
  obtain ⟨S', mo', hd, h1, h2, h3⟩ := h
  exact ⟨S', ⟨mo', fs, hd, e⟩, h1, h2, h3⟩

theorem DiskA.under {w w1 : World} {S : Nat → Prop} {a size : Nat} {l : List AF} (h : DiskA w S a size l) (hb : Below w.heap.size w w1) : DiskA w1 S a size l := by
  obtain ⟨mo, fs, hd, e⟩ := h
  exact ⟨mo, fs, hd.under hb, e⟩
theorem DiskA.beside {w w1 : World} {S T : Nat → Prop} {a size : Nat} {l : List AF} (h : DiskA w S a size l) (hk : Keeps T w w1) (hd : ∀ k, S k → ¬ T k) : DiskA w1 S a size l := by
  obtain ⟨mo, fs, h, e⟩ := h
  exact ⟨mo, fs, h.beside hk hd, e⟩
theorem DiskA.below {w : World} {S : Nat → Prop} {a size : Nat} {l : List AF} (h : DiskA w S a size l) : ∀ k, S k → k < w.heap.size := by
  obtain ⟨mo, fs, h, e⟩ := h
  exact h.below
theorem DiskA.facts {w : World} {S : Nat → Prop} {a size : Nat} {l : List AF} (h : DiskA w S a size l) : totalA l ≤ size ∧ size ≤ 16777216 ∧ l.length ≤ 256 ∧ l.Pairwise (fun x y => bytesBefore x.name y.name = true) ∧ (∀ x ∈ l, x.safe ≤ x.bs.length ∧ x.name.length ≤ maxLen) := by
  obtain ⟨mo, fs, h, rfl⟩ := h
  refine ⟨by rw [total_abs]; exact h.room, h.small, by rw [abs_length]; exact h.few, h.rising_abs, fun x hx => ?_⟩
  obtain ⟨p, hp, rfl⟩ := mem_abs.1 hx
  exact ⟨(h.owns p hp).2, h.names_le p hp⟩
theorem AfterA.same {S : Nat → Prop} {w w1 : World} {a size : Nat} {l : List AF} (h : DiskA w S a size l) (hb : Below w.heap.size w w1) : AfterA S w w1 a size l :=
  ⟨S, h.under hb, fun _ hk => .inl hk, fun _ hk => hk, Keeps.of_below hb⟩

theorem newA (n : Nat) (w : World) (h1 : 1 ≤ n) (h2 : n ≤ 16777216) :
    Calls Try.prog 9 #[.int .i64 (n : Int)] w fun e w' => e = .returned (.tuple #[.pointer (some ⟨w.heap.size, 0, none⟩), .int .i64 0]) ∧ DiskA w' (fun k => k = w.heap.size) w.heap.size n [] ∧ Below w.heap.size w w' :=
  (new_yes (n : Int) w (by omega) (by omega)).mono (fun e w' ⟨he, hw⟩ => by
    subst hw
    exact ⟨he, ⟨none, [], disk_made w n h2, rfl⟩, (Below.refl _ _).alloc (Nat.le_refl _) _⟩)

def admE (l : List AF) (n : ByteArray) : Nat := if nameB n = true then (if (alook l n.data.toList).isSome = true ∨ l.length < 256 then 0 else 3) else 1
def appE (size : Nat) (l : List AF) (n b : ByteArray) : Nat := if admE l n = 0 then (if b.size ≤ size - totalA l then 0 else 7) else admE l n
def appL (size : Nat) (l : List AF) (n b : ByteArray) : List AF :=
  if admE l n = 0 then aput l ⟨n.data.toList, abytes l n.data.toList ++ b.data.toList.take (min b.size (size - totalA l)), asafe l n.data.toList⟩ else l

theorem admE_zero {fs : List (List UInt8 × FileE)} {n : ByteArray} (h : admE (abs fs) n = 0) : nameB n = true ∧ ((flook fs n.data.toList).isSome = true ∨ fs.length < 256) := by
  unfold admE at h
  rw [asome_abs, abs_length] at h
  split at h
  · split at h
    · exact ⟨by assumption, by assumption⟩
    · cases h
  · cases h

/-- admit, whatever the name. -/
theorem admit_any {w : World} {S : Nat → Prop} {a size : Nat} {mo : Option Nat} {fs : List (List UInt8 × FileE)} (h : DiskM w S a size mo fs) (n : ByteArray) (hn : n.size ≤ maxLen) :
    Calls Try.prog 48 #[.pointer (some ⟨a, 0, none⟩), .string n] w fun e w' => e = .returned (.int .i64 (admE (abs fs) n : Int)) ∧ Below w.heap.size w w' := by
  unfold admE
  rw [asome_abs, abs_length]
  cases hb : nameB n with
  | false => exact (admit_bad n hn hb).mono (fun e w' ⟨h1, h2⟩ => by subst h2; exact ⟨by rw [h1]; rfl, Below.refl _ _⟩)
  | true =>
    cases hs : (flook fs n.data.toList).isSome with
    | true => exact (admit_there h n hn hb hs).mono (fun e w' ⟨h1, h2⟩ => ⟨by rw [h1]; simp, h2⟩)
    | false =>
      refine (admit_new h n hn hb hs).mono (fun e w' ⟨h1, h2⟩ => ⟨?_, h2⟩)
      rw [h1]
      by_cases h3 : fs.length < 256 <;> simp [h3]

set_option maxHeartbeats 400000 in
theorem append_not {w : World} {S : Nat → Prop} {a size : Nat} {mo : Option Nat} {fs : List (List UInt8 × FileE)} (h : DiskM w S a size mo fs) (n b : ByteArray) (hn : n.size ≤ maxLen) (hE : admE (abs fs) n ≠ 0) :
    Calls Try.prog 26 #[.pointer (some ⟨a, 0, none⟩), .string n, .string b] w fun e w' => e = .returned (.int .i64 (admE (abs fs) n : Int)) ∧ Below w.heap.size w w' := by
  have HA : Hid (Calls Try.prog 48 #[.pointer (some ⟨a, 0, none⟩), .string n] w fun e w' => e = .returned (.int .i64 (admE (abs fs) n : Int)) ∧ Below w.heap.size w w') := admit_any h n hn
  generalize admE (abs fs) n = E at *
  have hne : (((E : Nat) : Int) != 0) = true := by simp; omega
  clear h hE
  go_enter Try.func26, Try.ntmps26
  go_wp2_with (go_at_call 48; refine HA.out.mono ?_; rintro e w1 ⟨rfl, hb1⟩)
  go_ret
  exact ⟨rfl, hb1⟩

theorem appendA {w : World} {S : Nat → Prop} {a size : Nat} {l : List AF} (h : DiskA w S a size l) (n b : ByteArray) (hn : n.size ≤ maxLen) (hb : b.size ≤ maxLen) :
    Calls Try.prog 26 #[.pointer (some ⟨a, 0, none⟩), .string n, .string b] w fun e w' => e = .returned (.int .i64 (appE size l n b : Int)) ∧ AfterA S w w' a size (appL size l n b) := by
  obtain ⟨mo, fs, hd, rfl⟩ := h
  by_cases hE : admE (abs fs) n = 0
  · obtain ⟨h1, h2⟩ := admE_zero hE
    refine (append_any hd n b hn hb h1 h2).mono (fun e w' ⟨he, f, hf1, hf2, hA⟩ => ⟨?_, hA.abs' ?_⟩)
    · rw [he]; unfold appE; rw [if_pos hE, total_abs]; split <;> rfl
    · rw [abs_fput, hf1, hf2]; unfold appL; rw [if_pos hE, abytes_abs, asafe_abs, total_abs]
  · refine (append_not hd n b hn hE).mono (fun e w' ⟨he, hb⟩ => ⟨?_, ?_⟩)
    · rw [he]; unfold appE; rw [if_neg hE]
    · unfold appL; rw [if_neg hE]; exact AfterA.same ⟨mo, fs, hd, rfl⟩ hb

def repE (size : Nat) (l : List AF) (n b : ByteArray) : Nat := if admE l n = 0 then (if b.size ≤ size - totalA l + (abytes l n.data.toList).length then 0 else 7) else admE l n
def repL (size : Nat) (l : List AF) (n b : ByteArray) : List AF :=
  if admE l n = 0 ∧ b.size ≤ size - totalA l + (abytes l n.data.toList).length then aput l ⟨n.data.toList, b.data.toList, b.size⟩ else l

def synE (l : List AF) (n : ByteArray) : Nat := if (alook l n.data.toList).isSome = true then 0 else 8
def synL (l : List AF) (n : ByteArray) : List AF := if (alook l n.data.toList).isSome = true then aput l ⟨n.data.toList, abytes l n.data.toList, (abytes l n.data.toList).length⟩ else l

theorem syncA {w : World} {S : Nat → Prop} {a size : Nat} {l : List AF} (h : DiskA w S a size l) (n : ByteArray) (hn : n.size ≤ maxLen) :
    Calls Try.prog 29 #[.pointer (some ⟨a, 0, none⟩), .string n] w fun e w' => e = .returned (.int .i64 (synE l n : Int)) ∧ AfterA S w w' a size (synL l n) := by
  obtain ⟨mo, fs, hd, rfl⟩ := h
  unfold synE synL
  rw [asome_abs, abytes_abs]
  cases hf : flook fs n.data.toList with
  | some f =>
    simp only [Option.isSome_some, if_true]
    refine (sync_yes hd n hn f hf).mono (fun e w' ⟨he, hA⟩ => ⟨by rw [he]; rfl, hA.abs' ?_⟩)
    have e1 : bsAt fs n.data.toList = f.bs := by unfold bsAt; rw [hf]
    rw [abs_fput, e1]
  | none =>
    simp only [Option.isSome_none, Bool.false_eq_true, if_false]
    exact (sync_no hd n hn (by rw [hf]; rfl)).mono (fun e w' ⟨he, hb⟩ => ⟨by rw [he]; rfl, AfterA.same ⟨mo, fs, hd, rfl⟩ hb⟩)

theorem crashA {w : World} {S : Nat → Prop} {a size : Nat} {l : List AF} (h : DiskA w S a size l) (oa : Option Addr) (ks : List Int) (cap : Nat) (hk : dIntsAt w oa ks) (hlen : ks.length ≤ maxLen) (hkS : ks ≠ [] → ∀ b off, oa = some ⟨b, off, none⟩ → ¬ S b) :
    Calls Try.prog 16 #[.pointer (some ⟨a, 0, none⟩), .slice oa ks.length cap] w fun e w' => e = .returned (.tuple #[]) ∧ AfterA S w w' a size (crashL ks 0 l.length l) := by
  obtain ⟨mo, fs, hd, rfl⟩ := h
  refine (crash_any hd oa ks cap hk hlen hkS).mono (fun e w' ⟨he, fs', hfs, hA⟩ => ⟨he, hA.abs' ?_⟩)
  rw [hfs, abs_length]

theorem cloneA {w : World} {S : Nat → Prop} {a size : Nat} {l : List AF} (h : DiskA w S a size l) :
    Calls Try.prog 20 #[.pointer (some ⟨a, 0, none⟩)] w fun e w' => e = .returned (.pointer (some ⟨w.heap.size, 0, none⟩)) ∧ ∃ S', DiskA w' S' w.heap.size size l ∧ (∀ k, S' k → w.heap.size ≤ k) ∧ Below w.heap.size w w' := by
  obtain ⟨mo, fs, hd, rfl⟩ := h
  exact (dclone_any hd).mono (fun e w' ⟨he, S', mo', fs', hd', ha, hS, hb⟩ => ⟨he, S', ⟨mo', fs', hd', ha⟩, hS, hb⟩)

theorem readA {w : World} {S : Nat → Prop} {a size : Nat} {l : List AF} (h : DiskA w S a size l) (n : ByteArray) (hn : n.size ≤ maxLen) :
    Calls Try.prog 50 #[.pointer (some ⟨a, 0, none⟩), .string n] w fun e w' => e = .returned (.tuple #[.string (strOf (abytes l n.data.toList)), .int .i64 (synE l n : Int)]) ∧ Below w.heap.size w w' := by
  obtain ⟨mo, fs, hd, rfl⟩ := h
  unfold synE
  rw [asome_abs, abytes_abs]
  cases hs : (flook fs n.data.toList).isSome with
  | true => exact (read_yes hd n hn hs).mono (fun e w' ⟨he, hb⟩ => ⟨by rw [he]; rfl, hb⟩)
  | false =>
    refine (read_no hd n hn hs).mono (fun e w' ⟨he, hb⟩ => ⟨?_, hb⟩)
    have e1 : bsAt fs n.data.toList = [] := by
      unfold bsAt
      cases hf : flook fs n.data.toList with
      | none => rfl
      | some f => rw [hf] at hs; cases hs
    rw [he, e1]
    rfl

theorem sizeA {w : World} {S : Nat → Prop} {a size : Nat} {l : List AF} (h : DiskA w S a size l) (n : ByteArray) (hn : n.size ≤ maxLen) :
    Calls Try.prog 47 #[.pointer (some ⟨a, 0, none⟩), .string n] w fun e w' => e = .returned (.int .i64 ((abytes l n.data.toList).length : Int)) ∧ w' = w := by
  obtain ⟨mo, fs, hd, rfl⟩ := h
  rw [abytes_abs]
  exact size_any hd n hn

theorem syncedA {w : World} {S : Nat → Prop} {a size : Nat} {l : List AF} (h : DiskA w S a size l) (n : ByteArray) (hn : n.size ≤ maxLen) :
    Calls Try.prog 38 #[.pointer (some ⟨a, 0, none⟩), .string n] w fun e w' => e = .returned (.int .i64 (asafe l n.data.toList : Int)) ∧ w' = w := by
  obtain ⟨mo, fs, hd, rfl⟩ := h
  rw [asafe_abs]
  exact synced_any hd n hn

theorem freeA {w : World} {S : Nat → Prop} {a size : Nat} {l : List AF} (h : DiskA w S a size l) :
    Calls Try.prog 49 #[.pointer (some ⟨a, 0, none⟩)] w fun e w' => e = .returned (.int .i64 ((size - totalA l : Nat) : Int)) ∧ Below w.heap.size w w' := by
  obtain ⟨mo, fs, hd, rfl⟩ := h
  rw [total_abs]
  exact free_any hd

theorem namesA {w : World} {S : Nat → Prop} {a size : Nat} {l : List AF} (h : DiskA w S a size l) :
    Calls Try.prog 34 #[.pointer (some ⟨a, 0, none⟩)] w fun e w' => ∃ oa cap, e = .returned (.slice oa l.length cap) ∧ (0 < l.length → ∃ g, oa = some ⟨g, 0, none⟩ ∧ w.heap.size ≤ g ∧ g < w'.heap.size ∧ ∀ j x, l[j]? = some x → w'.cell? ⟨g, j, none⟩ = some (.string (strOf x.name))) ∧ Below w.heap.size w w' := by
  obtain ⟨mo, fs, hd, rfl⟩ := h
  refine (names_any hd).mono (fun e w' ⟨v, h1, h2, h3⟩ => ?_)
  obtain ⟨oa, cap, rfl, hg⟩ := row_shape h2
  rw [abs_length]
  refine ⟨oa, cap, h1, fun h0 => ?_, h3⟩
  obtain ⟨g, e1, e2, e3, e4⟩ := hg h0
  refine ⟨g, e1, e2, e3, fun j x hx => e4 j _ ?_⟩
  rw [abs_at] at hx
  obtain ⟨p, hp, rfl⟩ := Option.map_eq_some_iff.1 hx
  rw [List.getElem?_map, List.getElem?_map, hp]
  rfl
end Go.Proofs.Ytlgaianlkbaedaa

