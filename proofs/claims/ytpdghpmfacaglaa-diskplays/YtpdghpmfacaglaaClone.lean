/- What Clone does. -/
import Derived.Test.YtpdghpmfacaglaaCrash
import Derived.Deep.RegionWith
import Derived.Deep.RegionHeld3
namespace Go.Proofs.Ytpdghpmfacaglaa
open Go.RowKit Go.Maps Go.Sort
set_option maxRecDepth 100000
set_option linter.unusedSimpArgs false
set_option linter.unusedVariables false

theorem sorted_ext : ∀ (l m : List AF), l.Pairwise (fun x y => bytesBefore x.name y.name = true) → m.Pairwise (fun x y => bytesBefore x.name y.name = true) → (∀ x, x ∈ l ↔ x ∈ m) → l = m
  | [], [], _, _, _ => rfl
  | [], y :: s, _, _, h => by have := (h y).2 (by simp); cases this
  | x :: r, [], _, _, h => by have := (h x).1 (by simp); cases this
  | x :: r, y :: s, hl, hm, h => by
    have hl' := List.pairwise_cons.1 hl
    have hm' := List.pairwise_cons.1 hm
    have hxy : x = y := by
      rcases List.mem_cons.1 ((h x).1 (by simp)) with e | hx
      · exact e
      · rcases List.mem_cons.1 ((h y).2 (by simp)) with e | hy
        · exact e.symm
        · have a1 := hm'.1 x hx
          have a2 := hl'.1 y hy
          rw [before_asymm a1] at a2
          cases a2
    subst hxy
    refine congrArg _ (sorted_ext r s hl'.2 hm'.2 (fun z => ?_))
    constructor
    · intro hz
      rcases List.mem_cons.1 ((h z).1 (by simp [hz])) with e | h2
      · exact absurd (by rw [e]) (before_ne (hl'.1 z hz))
      · exact h2
    · intro hz
      rcases List.mem_cons.1 ((h z).2 (by simp [hz])) with e | h2
      · exact absurd (by rw [e]) (before_ne (hm'.1 z hz))
      · exact h2

theorem DiskM.rising_abs {w : World} {S : Nat → Prop} {a size : Nat} {mo : Option Nat} {fs : List (List UInt8 × FileE)} (h : DiskM w S a size mo fs) : (abs fs).Pairwise (fun x y => bytesBefore x.name y.name = true) := by
  unfold abs
  rw [List.pairwise_map]
  exact h.rising

def Ag (fc fs : List (List UInt8 × FileE)) (left : Lit → Bool) : Prop := ∀ x : AF, x ∈ abs fc ↔ (x ∈ abs fs ∧ left (.string x.name) = false)

theorem mem_abs {fs : List (List UInt8 × FileE)} {x : AF} : x ∈ abs fs ↔ ∃ p ∈ fs, absE p = x := by simp [abs]

theorem Ag.step {fc fs : List (List UInt8 × FileE)} {left : Lit → Bool} (h : Ag fc fs left) (hk : fs.Pairwise (fun p q => p.1 ≠ q.1)) {n : List UInt8} {f g : FileE} (hf : (n, f) ∈ fs) (hl : left (.string n) = true) (hg : absE (n, g) = absE (n, f)) :
    Ag (fput fc n g) fs (fun z => left z && !z.sameKey (.string n)) := by
  intro x
  have hone : ∀ p ∈ fs, p.1 = n → p = (n, f) := fun p hp he => by
    have h1 := flook_of_mem hk hp
    have h2 := flook_of_mem hk hf
    simp only at h2
    rw [he, h2] at h1
    exact Prod.ext he (Option.some.inj h1).symm
  rw [mem_abs]
  simp only [sk]
  constructor
  · rintro ⟨p, hp, rfl⟩
    rcases (mem_fput _ _ _ _).1 hp with rfl | ⟨hp, hne⟩
    · refine ⟨mem_abs.2 ⟨(n, f), hf, hg.symm⟩, ?_⟩
      simp [absE]
    · have := (h (absE p)).1 (mem_abs.2 ⟨p, hp, rfl⟩)
      exact ⟨this.1, by simp [this.2]⟩
  · rintro ⟨hx, hl2⟩
    obtain ⟨p, hp, rfl⟩ := mem_abs.1 hx
    by_cases he : p.1 = n
    · have := hone p hp he
      subst this
      exact ⟨(n, g), (mem_fput _ _ _ _).2 (.inl rfl), hg⟩
    · have hne : ((absE p).name == n) = false := by simpa [absE] using he
      rw [hne] at hl2
      simp at hl2
      obtain ⟨q, hq, he2⟩ := mem_abs.1 ((h (absE p)).2 ⟨hx, hl2⟩)
      refine ⟨q, (mem_fput _ _ _ _).2 (.inr ⟨hq, fun e => he ?_⟩), he2⟩
      have := congrArg AF.name he2
      simp only [absE] at this
      rw [← this]; exact e

theorem Ag.fresh {fc fs : List (List UInt8 × FileE)} {left : Lit → Bool} (h : Ag fc fs left) {n : List UInt8} (hl : left (.string n) = true) : ∀ p ∈ fc, p.1 ≠ n := fun p hp e => by
  have := ((h (absE p)).1 (mem_abs.2 ⟨p, hp, rfl⟩)).2
  simp only [absE] at this
  rw [e, hl] at this
  cases this

/-- A round of Clone: what is asked of the callees. -/
theorem clone_copy {w wr W : World} {S Sc : Nat → Prop} {a ca size : Nat} {mo mc : Option Nat} {fs fc : List (List UInt8 × FileE)} (hw : DiskM w S a size mo fs) (hwr : Below w.heap.size w wr) (hc : DiskM wr Sc ca size mc fc) (hW : Below wr.heap.size wr W)
    {n : ByteArray} (hn : n.size ≤ maxLen) {oa : Option Addr} {cap : Nat} {bs : List UInt8} {safe : Nat} (hm : (n.data.toList, (⟨.slice oa bs.length cap, bs, safe⟩ : FileE)) ∈ fs) (hfr : ∀ p ∈ fc, p.1 ≠ n.data.toList) (hroom : bs.length + total fc ≤ size) (hfew : fc.length < 256) :
    Calls Try.prog 43 #[.slice oa bs.length cap] W fun e w' => ∃ v, e = .returned v ∧ (∃ oa l c, v = .slice oa l c) ∧ Below W.heap.size W w' ∧
      Calls Try.prog 42 #[.pointer (some ⟨ca, 0, none⟩), .string n, .agg #[v, .int .i64 (safe : Int)]] w' fun e w'' => e = .returned (.tuple #[]) ∧ After Sc wr w'' ca size (fput fc n.data.toList ⟨v, bs, safe⟩) ∧ ∀ k, k < W.heap.size → ¬ Sc k → w''.heap[k]? = W.heap[k]? := by
  obtain ⟨hB, hsafe⟩ := hw.owns _ hm
  simp only at hB hsafe
  have hbl : bs.length ≤ 16777216 := by have := hc.small; omega
  have hwW : Below w.heap.size w W := hwr.trans (hW.mono hwr.size)
  have hBW : BytesAt W S (.slice oa bs.length cap) bs := hB.kept (fun _ hk => hk) (fun k hk => hwW.block k (hB.lt k hk).2)
  have hsrc : Src W oa bs ∧ (oa = none → cap = 0) := by
    rcases hB with ⟨e, rfl⟩ | ⟨g, cap', cur, mk, e, _⟩
    · cases e; exact ⟨.inl ⟨rfl, rfl⟩, fun _ => rfl⟩
    · cases e; exact ⟨.inr ⟨g, rfl, fun i hi => hBW.cell i hi⟩, fun e => by cases e⟩
  refine (copied_any W oa cap bs hsrc.1 hbl hsrc.2).mono (fun e w' ⟨v, h1, h2, h3⟩ => ?_)
  have hW' : Below wr.heap.size wr w' := hW.trans (h3.mono hW.size)
  have hshv : ∃ oa l c, v = .slice oa l c := by obtain ⟨oa, c, e⟩ := h2.shape; exact ⟨oa, _, c, e⟩
  refine ⟨v, h1, hshv, h3, ?_⟩
  have hd : DiskM w' (fun k => Sc k ∨ (W.heap.size ≤ k ∧ k < w'.heap.size)) ca size mc fc := (hc.under hW').more (fun k hk => .inl hk) (fun k hk => by
    rcases hk with hk | hk
    · have := hc.below k hk; have := hW'.size; omega
    · exact hk.2)
  have hfd := fdel_of_ne n.data.toList fc hfr
  have := put_any hd n hn ⟨v, bs, safe⟩ (h2.kept (fun k hk => .inr hk) (fun _ _ => rfl)) hsafe
    (fun p hp hne k hk hq => by
      have h4 := ((hc.owns p hp).1.lt k hq).2
      have h5 := (h2.lt k hk).1.1
      have := hW.size
      omega) (by rw [total_fput, hfd]; exact hroom) (by rw [len_fput, hfd]; omega)
  refine this.mono (fun e w'' ⟨h1, h2⟩ => ⟨h1, ?_, fun k hk hS => ?_⟩)
  · refine After.then (Keeps.of_below hW') (fun k hk => ?_) (fun k hk => .inl hk) h2
    rcases hk with hk | hk
    · exact .inl hk
    · exact .inr (by have := hW.size; omega)
  · obtain ⟨_, _, _, _, _, hkp⟩ := h2
    exact (hkp.block k (Nat.lt_of_lt_of_le hk h3.size) (fun h => by rcases h with h | h; exact hS h; omega)).trans (h3.block k hk)

theorem disk_made (w : World) (size : Nat) (hs : size ≤ 16777216) : DiskM (w.alloc (.cells #[.int .i64 (size : Int), .map none] 56)) (fun k => k = w.heap.size) w.heap.size size none [] :=
  ⟨fun k hk => by rw [hk]; simp, rfl, heap_alloc_new w _, rfl, (fun b e => by cases e), (fun p hp => by cases hp), List.Pairwise.nil, Nat.zero_le _, hs, by simp⟩

set_option maxHeartbeats 400000 in
theorem clone_none {w : World} {S : Nat → Prop} {a size : Nat} {fs : List (List UInt8 × FileE)} (h : DiskM w S a size none fs) :
    Calls Try.prog 14 #[.pointer (some ⟨a, 0, none⟩)] w fun e w' => e = .returned (.pointer (some ⟨w.heap.size, 0, none⟩)) ∧ ∃ S' mo' fs', DiskM w' S' w.heap.size size mo' fs' ∧ abs fs' = abs fs ∧ (∀ k, S' k → w.heap.size ≤ k) ∧ Below w.heap.size w w' := by
  have hal := h.below a h.self
  have c0 := h.c0
  have c1 : ∀ o, (w.alloc o).cell? ⟨a, 1, none⟩ = some (.map none) := fun o => (World.cell?_of_block (a := ⟨a, 1, none⟩) (Below.heap_alloc w o a hal)).trans h.c1
  have hfs : fs = [] := h.files
  have hsm := h.small
  subst hfs
  clear h
  have hrg := run_range_nilMap (P := Try.prog) (w.alloc (.cells #[.int .i64 (size : Int), .map none] 56)) 54 9 65 Try.underlying54
  have hnx : ∀ ty, (Instr.next (.pointer (some ⟨(w.alloc (.cells #[.int .i64 (size : Int), .map none] 56)).heap.size, 0, none⟩)) false ty).run Try.prog ((w.alloc (.cells #[.int .i64 (size : Int), .map none] 56)).alloc (.mapIter none 0 #[] 0)) = _ := fun ty => run_next_nilMap _ ty 0 0 #[]
  have e1 : (w.alloc (.cells #[.int .i64 (size : Int), .map none] 56)).heap.size = w.heap.size + 1 := by simp
  rw [e1] at hrg hnx
  go_enter Try.func14, Try.ntmps14
  go_wp2
  refine wp_loop_rounds 1 ?_
  rw [rounds_succ]
  go_wp2
  go_ret
  have hb : Below w.heap.size w ((w.alloc (.cells #[.int .i64 (size : Int), .map none] 56)).alloc (.mapIter none 0 #[] 0)) := ((Below.refl _ _).alloc (Nat.le_refl _) _).alloc (by simp) _
  exact ⟨rfl, _, none, [], (disk_made w size hsm).under ((Below.refl _ _).alloc (Nat.le_refl _) _), rfl, fun k hk => by rw [hk]; exact Nat.le_refl _, hb⟩

set_option maxHeartbeats 1600000 in
theorem clone_some {w : World} {S : Nat → Prop} {a size b : Nat} {fs : List (List UInt8 × FileE)} (h : DiskM w S a size (some b) fs) :
    Calls Try.prog 14 #[.pointer (some ⟨a, 0, none⟩)] w fun e w' => e = .returned (.pointer (some ⟨w.heap.size, 0, none⟩)) ∧ ∃ S' mo' fs', DiskM w' S' w.heap.size size mo' fs' ∧ abs fs' = abs fs ∧ (∀ k, S' k → w.heap.size ≤ k) ∧ Below w.heap.size w w' := by
  have hal := h.below a h.self
  have c0 := h.c0
  have c1 : ∀ o, (w.alloc o).cell? ⟨a, 1, none⟩ = some (.map (some b)) := fun o => (World.cell?_of_block (a := ⟨a, 1, none⟩) (Below.heap_alloc w o a hal)).trans h.c1
  have hown : w.ownsMap Try.prog 9 Rh b fs.length (dmap fs) := h.files
  have hbl := hown.lt
  have hkeys := h.keys
  have hof := h.of_at
  have hfew := h.few
  have hroom := h.room
  have hsm := h.small
  have e1 : (w.alloc (.cells #[.int .i64 (size : Int), .map none] 56)).heap.size = w.heap.size + 1 := by simp
  have HD : Hid (DiskM w S a size (some b) fs) := h
  clear h
  go_enter Try.func14, Try.ntmps14
  go_wp2_with (first
    | (at_range; refine wpList_range_own _ rfl _ 54 rfl 9 65 law9 Try.underlying54 _ b fs.length _ rfl (hown.alloc _) ?_; intro w0 hrg0 hg0 hs0)
    | go_in)
  go_frame
  rw [e1] at hrg0 hs0 ⊢
  go_loopw [4] (fun _ wr => ∃ (left : Lit → Bool) (cnt : Nat) (Sc : Nat → Prop) (mc : Option Nat) (fc : List (List UInt8 × FileE)), wr.ranges Try.prog 9 Rh b (w.heap.size + 1) fs.length (dmap fs) left cnt ∧
      Hid (DiskM wr Sc w.heap.size size mc fc ∧ (∀ k, Sc k → w.heap.size ≤ k ∧ k ≠ w.heap.size + 1) ∧ Ag fc fs left ∧ total fc = doneB left fs ∧ fc.length + cnt ≤ fs.length) ∧ Below w.heap.size w wr ∧ w.heap.size + 1 < wr.heap.size)
    (fun _ wr => wr.rangeLeft b (w.heap.size + 1))
  case atStart =>
    have hall : ∀ p ∈ fs, Maps.has (dmap fs) (.string p.1) = true := fun p hp => by rw [dmap_has]; exact flook_isSome_iff.2 ⟨p, hp, rfl⟩
    have hb0 : Below w.heap.size w w0 := ((Below.refl _ _).alloc (Nat.le_refl _) _).grown hg0 (by simp) (fun j hj => by cases hj)
    refine ⟨_, _, fun k => k = w.heap.size, none, [], hrg0, ⟨(disk_made w size hsm).kept (fun k hk => hg0.block k (by rw [hk]; simp) (by simp)) hg0.size, fun k hk => by omega, fun x => ?_, ?_, ?_⟩, hb0, by omega⟩
    · constructor
      · intro hx; cases hx
      · rintro ⟨hx, hl⟩
        obtain ⟨p, hp, rfl⟩ := mem_abs.1 hx
        rw [show (absE p).name = p.1 from rfl, hall p hp] at hl
        cases hl
    · rw [doneB_start _ fs hall]; rfl
    · rw [dmap_size]; simp
  case round =>
    obtain ⟨left, cnt, Sc, mc, fc, hrg, hI, hnx, hsz⟩ := hrel
    go_wp2_with (first
      | (at_next; refine wpList_next_ranges _ rfl _ rfl 9 law9 Rh encStr (fun c : Option Addr × Nat × Nat × Int => Value.agg #[.slice c.1 c.2.1 c.2.2.1, .int .i64 c.2.2.2]) (fun key kl hkey => by obtain ⟨x, rfl, _⟩ := Maps.keyOf_str Try.underlying9 hkey; exact ⟨_, rfl⟩) (fun v y hv => (Rh_inv hv).1) b (w.heap.size + 1) fs.length (dmap fs) left cnt rfl hrg ?_ ?_)
      | go_in)
    · intro hc0 hl0
      go_wp2
      go_ret
      obtain ⟨hd, hS, hag, ht, hcn⟩ := hI.out
      refine ⟨rfl, Sc, mc, fc, hd, sorted_ext _ _ hd.rising_abs HD.out.rising_abs (fun x => ?_), fun k hk => (hS k hk).1, hnx⟩
      rw [hag x]
      simp [hl0]
    · intro x oa l cap sf kl y1 y2 w1 cnt1 hkey hlx hRy hat hrg1 hlt hg1 hs1 hen
      obtain ⟨x', hx', hkl, hxl⟩ := Maps.keyOf_str Try.underlying9 hkey
      cases encStr_inj hx'
      subst hkl
      have hy := (Rh_inv hRy).2
      simp only [Prod.mk.injEq] at hy
      obtain ⟨f, hm, hv, hl⟩ := hof x (oa, l, cap, sf) (fun zd => (hat zd).trans hy.1)
      obtain ⟨sv, bs, safe⟩ := f
      simp only at hl
      have hv2 : sv = .slice oa bs.length cap ∧ (safe : Int) = sf := by
        unfold FileE.val mkF at hv
        simp only [Value.agg.injEq] at hv
        have h1 := congrArg (fun z : Array Value => z[0]?) hv
        have h2 := congrArg (fun z : Array Value => z[1]?) hv
        simp at h1 h2
        exact ⟨by rw [h1, hl], h2⟩
      obtain ⟨rfl, rfl⟩ := hv2
      subst hl
      have hen' : (Instr.entry (.pointer (some ⟨w.heap.size + 1, 0, none⟩))).run Try.prog w1 = .ok (.tuple #[.string ⟨x.toArray⟩, .agg #[.slice oa bs.length cap, .int .i64 (safe : Int)]]) w1 := hen
      have hnx1 : Below w.heap.size w w1 := hnx.grown hg1 hnx.size (fun j hj => by cases hj; omega)
      obtain ⟨hd, hS, hag, ht, hcn⟩ := hI.out
      have hd1 : DiskM w1 Sc w.heap.size size mc fc := hd.kept (fun k hk => hg1.block k (hd.below k hk) (by have := (hS k hk).2; simpa using this)) (by omega)
      have hstep := doneB_step left x _ fs hkeys hm hlx
      have hle2 := doneB_le (fun z => left z && !z.sameKey (.string x)) fs
      have HCp : Hid (∀ W, Below w1.heap.size w1 W → Calls Try.prog 43 #[.slice oa bs.length cap] W fun e w' => ∃ v, e = .returned v ∧ (∃ oa l c, v = .slice oa l c) ∧ Below W.heap.size W w' ∧
          Calls Try.prog 42 #[.pointer (some ⟨w.heap.size, 0, none⟩), .string ⟨x.toArray⟩, .agg #[v, .int .i64 (safe : Int)]] w' fun e w'' => e = .returned (.tuple #[]) ∧ After Sc w1 w'' w.heap.size size (fput fc x ⟨v, bs, safe⟩) ∧ ∀ k, k < W.heap.size → ¬ Sc k → w''.heap[k]? = W.heap[k]?) := by
        intro W hW
        exact clone_copy HD.out hnx1 hd1 hW (n := ⟨x.toArray⟩) (by simpa [ByteArray.size] using hxl) (cap := cap) (safe := safe) hm (hag.fresh hlx) (by simp only at hstep; omega) (by omega)
      have HI : Hid (DiskM w1 Sc w.heap.size size mc fc ∧ (∀ k, Sc k → w.heap.size ≤ k ∧ k ≠ w.heap.size + 1) ∧ Ag fc fs left ∧ total fc = doneB left fs ∧ fc.length + cnt ≤ fs.length) := ⟨hd1, hS, hag, ht, hcn⟩
      have HS : Hid (doneB (fun z => left z && !z.sameKey (.string x)) fs = doneB left fs + bs.length) := hstep
      have HM : Hid ((x, (⟨.slice oa bs.length cap, bs, safe⟩ : FileE)) ∈ fs) := hm
      have HLx : Hid (left (.string x) = true) := hlx
      have HS1 : Hid (w1.heap.size = wr.heap.size) := hs1
      clear hen hstep hat hv hy hRy hkey hx' hof hle2 hd hS hag ht hcn hI hm hd1 hlx hs1
      go_wp2
      have hnS : ¬ Sc w1.heap.size := fun hS => by have := HI.out.1.below _ hS; omega
      go_region_held3 (fun w' => w'.cell? ⟨w1.heap.size, 0, none⟩ = some (.slice oa bs.length cap) ∧ w'.cell? ⟨w1.heap.size, 1, none⟩ = some (.int .i64 (safe : Int)))
        (first | exact ⟨hcC, hcD⟩ | exact ⟨hcA, hcB⟩ | (constructor <;> simp))
        (first
        | (go_at_call 43; refine (HCp.out _ (((Below.refl _ _).alloc (Nat.le_refl _) _).drew)).mono ?_; rintro e w2 ⟨v, rfl, ⟨oa2, l2, c2, rfl⟩, hb2, hput⟩; have hcA : w2.cell? ⟨w1.heap.size, 0, none⟩ = some (.slice oa bs.length cap) := (hb2.cell (p := ⟨w1.heap.size, 0, none⟩) (by simp)).trans (by simp); have hcB : w2.cell? ⟨w1.heap.size, 1, none⟩ = some (.int .i64 (safe : Int)) := (hb2.cell (p := ⟨w1.heap.size, 1, none⟩) (by simp)).trans (by simp); have HPut : Hid (Calls Try.prog 42 #[.pointer (some ⟨w.heap.size, 0, none⟩), .string ⟨x.toArray⟩, .agg #[.slice oa2 l2 c2, .int .i64 (safe : Int)]] w2 fun e w'' => e = .returned (.tuple #[]) ∧ After Sc w1 w'' w.heap.size size (fput fc x ⟨.slice oa2 l2 c2, bs, safe⟩) ∧ ∀ k, k < (w1.alloc (Obj.cells #[.slice oa bs.length cap, .int .i64 (safe : Int)] 65)).drew.heap.size → ¬ Sc k → w''.heap[k]? = (w1.alloc (Obj.cells #[.slice oa bs.length cap, .int .i64 (safe : Int)] 65)).drew.heap[k]?) := hput; clear hput)
        | (go_at_call 42; refine HPut.out.mono ?_; rintro e w3 ⟨rfl, hA, hbx⟩; have hcC : w3.cell? ⟨w1.heap.size, 0, none⟩ = some (.slice oa bs.length cap) := (World.cell?_of_block (a := ⟨w1.heap.size, 0, none⟩) (hbx w1.heap.size (by simp) hnS)).trans (by simp); have hcD : w3.cell? ⟨w1.heap.size, 1, none⟩ = some (.int .i64 (safe : Int)) := (World.cell?_of_block (a := ⟨w1.heap.size, 1, none⟩) (hbx w1.heap.size (by simp) hnS)).trans (by simp)))
      obtain ⟨S2, mc2, hd2, g1, g2, g3⟩ := hA
      have hsz1 := HS1.out
      have hrg3 : w3.ranges Try.prog 9 Rh b (w.heap.size + 1) fs.length (dmap fs) (fun z => left z && !z.sameKey (.string x)) cnt1 := by
        have hSc := HI.out.2.1
        obtain ⟨es, clock, since, seen, c0, hb, F, hs, hD, hr, rest⟩ := hrg1
        exact ⟨es, clock, since, seen, c0, (g3.block b (by omega) (fun h => by have := (hSc b h).1; omega)).trans hb, F, hs, hD, (g3.block (w.heap.size + 1) (by omega) (fun h => (hSc _ h).2 rfl)).trans hr, rest⟩
      have HG : Hid (Keeps Sc w1 w3 ∧ DiskM w3 S2 w.heap.size size mc2 (fput fc x ⟨.slice oa2 l2 c2, bs, safe⟩) ∧ ∀ k, S2 k → Sc k ∨ w1.heap.size ≤ k) := ⟨g3, hd2, g1⟩
      clear hd2 g1 g2 g3 hsz1 hcA hcB hcC hcD hbx hb2
      go_wp2
      go_roundw
      case rel =>
        obtain ⟨hd1, hSc, hag, ht, hcn⟩ := HI.out
        obtain ⟨g3, hd2, g1⟩ := HG.out
        have hsz1 := HS1.out
        have hfd := fdel_of_ne x fc (hag.fresh HLx.out)
        refine ⟨_, cnt1, S2, mc2, _, hrg3, ⟨hd2, fun k hk => ?_, hag.step hkeys HM.out HLx.out rfl, ?_, ?_⟩, hnx1.trans (g3.below (by omega) (fun k hk => (hSc k hk).1)), by have := g3.size; omega⟩
        · rcases g1 k hk with h | h
          · exact hSc k h
          · exact ⟨by omega, by omega⟩
        · rw [total_fput, hfd, HS.out, ht]; simp only; omega
        · rw [len_fput, hfd]; omega
      case measure => rw [hrg3.left_eq, hrg.left_eq]; exact hlt

theorem clone_any {w : World} {S : Nat → Prop} {a size : Nat} {mo : Option Nat} {fs : List (List UInt8 × FileE)} (h : DiskM w S a size mo fs) :
    Calls Try.prog 14 #[.pointer (some ⟨a, 0, none⟩)] w fun e w' => e = .returned (.pointer (some ⟨w.heap.size, 0, none⟩)) ∧ ∃ S' mo' fs', DiskM w' S' w.heap.size size mo' fs' ∧ abs fs' = abs fs ∧ (∀ k, S' k → w.heap.size ≤ k) ∧ Below w.heap.size w w' := by
  cases mo with
  | none => exact clone_none h
  | some b => exact clone_some h
end Go.Proofs.Ytpdghpmfacaglaa
