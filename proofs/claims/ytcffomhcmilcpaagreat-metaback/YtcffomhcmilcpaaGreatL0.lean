/- Topics and partitions without memory: what MetaTopics says of an image. -/
import Derived.Test.YtcffomhcmilcpaaGreatK28
import Derived.Test.YtcffomhcmilcpaaGreatK6
import Derived.Sort.OwnSorted
import Derived.Laws.BitsAllLaws
namespace Go.Proofs.YtcffomhcmilcpaaGreat
set_option linter.unusedSimpArgs false
set_option linter.unusedVariables false

/-- What an image keeps to whose records registered and let up the brokers 1 to n, and made topics. -/
structure TopK (n : Int) (I : Im) : Prop where
  up : ∀ x ∈ upL I.brs, 1 ≤ x ∧ x ≤ n
  lead : ∀ p ∈ I.parts, p.leader = headL p.reps
  reps : ∀ p ∈ I.parts, ∀ x ∈ p.reps, 1 ≤ x ∧ x ≤ n
  names : I.tops.Pairwise (fun s t => sameN s.name t.name = false)
theorem TopK.new (n : Int) : TopK n Im.new := ⟨fun x hx => by simp [Im.new, upL] at hx, fun p hp => by simp [Im.new] at hp, fun p hp => by simp [Im.new] at hp, by simp [Im.new]⟩
theorem upL_put {bs : BM} {m : Int} {b : Br} {x : Int} (h : x ∈ upL (putB bs m b)) : x = m ∨ x ∈ upL bs := by
  unfold upL at h ⊢
  obtain ⟨p, hp, rfl⟩ := List.mem_map.1 h
  obtain ⟨h1, h2⟩ := List.mem_filter.1 hp
  rcases (mem_putB _ _ _ _).1 h1 with rfl | ⟨h3, _⟩
  · exact .inl rfl
  · exact .inr (List.mem_map.2 ⟨p, List.mem_filter.2 ⟨h3, h2⟩, rfl⟩)
/-- Nothing is there but brokers. -/
def Bare (n : Int) (I : Im) : Prop := TopK n I ∧ I.parts = [] ∧ I.tops = []
theorem Bare.new (n : Int) : Bare n Im.new := ⟨TopK.new n, rfl, rfl⟩
theorem bare_put {n : Int} {I : Im} (h : Bare n I) {m : Int} (hm : 1 ≤ m ∧ m ≤ n) (b : Br) (f : Pt → Pt) : Bare n { I with brs := putB I.brs m b, parts := I.parts.map f } := by
  obtain ⟨h1, h2, h3⟩ := h
  refine ⟨⟨fun x hx => ?_, ?_, ?_, ?_⟩, by simp [h2], h3⟩
  · rcases upL_put hx with rfl | hx
    · exact hm
    · exact h1.up x hx
  · intro p hp; simp [h2] at hp
  · intro p hp; simp [h2] at hp
  · exact h1.names
theorem bare_apply {n : Int} {I : Im} (h : Bare n I) {r : Rc} (hk : r.kind = 1 ∨ r.kind = 3) (hm : 1 ≤ r.a ∧ r.a ≤ n) : Bare n (applyI I r).1 := by
  have h0 : Bare n (nextI I) := ⟨⟨h.1.up, h.1.lead, h.1.reps, h.1.names⟩, h.2.1, h.2.2⟩
  unfold applyI doI
  generalize nextI I = J at h0 ⊢
  rcases hk with e | e
  · rw [if_pos e]
    unfold registerI
    split
    · exact h0
    · split
      · exact h0
      · have key : ∀ K : Im, Bare n K → Bare n { K with brs := putB K.brs r.a ⟨r.b, false⟩ } := fun K hK => by
          have := bare_put hK hm ⟨r.b, false⟩ id
          simpa using this
        refine key _ ?_
        split
        · unfold putOffI
          exact bare_put h0 hm _ _
        · exact h0
  · rw [if_neg (by omega), if_neg (by omega), if_pos e]
    unfold unfenceI
    split
    · exact h0
    · exact bare_put h0 hm _ _
theorem hasT_false {l : List Tp} {s : ByteArray} (h : hasT l s = false) : ∀ t ∈ l, sameN t.name s = false := by
  unfold hasT at h
  intro t ht
  cases e : sameN t.name s
  · rfl
  · have h2 : (l.any fun t => sameN t.name s) = true := List.any_eq_true.2 ⟨t, ht, e⟩
    rw [h2] at h
    cases h
theorem topk_topic {n : Int} {I : Im} (h : TopK n I) {r : Rc} (hk : r.kind = 4) : TopK n (applyI I r).1 := by
  have h0 : TopK n (nextI I) := ⟨h.up, h.lead, h.reps, h.names⟩
  unfold applyI doI
  generalize nextI I = J at h0 ⊢
  rw [if_neg (by omega), if_neg (by omega), if_neg (by omega), if_pos hk]
  unfold topicI
  split
  · exact h0
  · rename_i hb
    split
    · exact h0
    · rename_i ht
      split
      · exact h0
      · rename_i hf
        have hbu : upB r.b 5 = true := by
          simp only [Bool.or_eq_true, Bool.not_eq_true', not_or, Bool.not_eq_false] at hb
          exact hb.1.2
        have h1 := upB_iff.1 hbu
        have hl : 0 < (upL J.brs).length := by omega
        refine ⟨h0.up, fun p hp => ?_, fun p hp x hx => ?_, ?_⟩
        · rcases List.mem_append.1 hp with hp | hp
          · exact h0.lead p hp
          · obtain ⟨i, _, rfl⟩ := List.mem_map.1 hp
            rfl
        · rcases List.mem_append.1 hp with hp | hp
          · exact h0.reps p hp x hx
          · obtain ⟨i, _, rfl⟩ := List.mem_map.1 hp
            exact h0.up x (roundL_mem hl hx)
        · refine List.pairwise_append.2 ⟨h0.names, by simp, fun s hs t ht2 => ?_⟩
          simp at ht2
          subst ht2
          exact hasT_false (by simpa using ht) s hs
/-- How many of a name: the topic's count. -/
def cntT (l : List Tp) (s : ByteArray) : Int := match l.find? (fun t => sameN t.name s) with | some t => t.count | none => 0
theorem sameN_iff {s t : ByteArray} : sameN s t = true ↔ s = t := by
  unfold sameN
  constructor
  · intro h
    have h1 := beq_iff_eq.1 h
    rw [ByteArray.toList_eq, ByteArray.toList_eq] at h1
    obtain ⟨s⟩ := s
    obtain ⟨t⟩ := t
    have h2 : s.toList = t.toList := h1
    rw [Array.toList_inj.1 h2]
  · rintro rfl; simp
theorem sameN_self (s : ByteArray) : sameN s s = true := sameN_iff.2 rfl
theorem cnt_of {l : List Tp} (h : l.Pairwise (fun s t => sameN s.name t.name = false)) {t : Tp} (ht : t ∈ l) : cntT l t.name = t.count := by
  unfold cntT
  induction l with
  | nil => cases ht
  | cons y r ih =>
    obtain ⟨h1, h2⟩ := List.pairwise_cons.1 h
    rcases List.mem_cons.1 ht with rfl | ht
    · simp [List.find?_cons, sameN_self]
    · rw [List.find?_cons, h1 t ht]
      exact ih h2 ht
theorem sum_cnt : ∀ (l : List Tp), (l.map (·.count)).sum = sumT l
  | [] => rfl
  | t :: r => by simp [sumT, sum_cnt r]
theorem sum_names {l : List Tp} (h : l.Pairwise (fun s t => sameN s.name t.name = false)) : ((l.map (·.name)).map (cntT l)).sum = sumT l := by
  rw [← sum_cnt, List.map_map]
  congr 1
  refine List.map_congr_left fun t ht => ?_
  exact cnt_of h ht
theorem headL_get {l : List Int} (h : 0 < l.length) : headL l = l[0] := by cases l with
  | nil => simp at h
  | cons a r => rfl
end Go.Proofs.YtcffomhcmilcpaaGreat

/- The library's contract on slices.Sort of strings, laid at this program. -/
namespace Go.Proofs
open Go.RowKit Go.Maps Go.Sort Go.Shelf

def Tryz.sortS_ren : Go.Shelf.Ren := ⟨fun | 6 => 64 | 8 => 112 | 9 => 111 | 19 => 154 | 20 => 155 | 21 => 145 | 22 => 146 | 23 => 147 | 24 => 148 | 25 => 149 | 26 => 150 | 27 => 151 | 28 => 152 | 29 => 153 | 36 => 175 | 31 => 176 | 32 => 177 | 37 => 178 | 38 => 179 | 39 => 180 | 41 => 198 | n => n, fun | 27 => 60 | 29 => 9 | 3 => 3 | 32 => 139 | 26 => 60 | 0 => 0 | 44 => 155 | 46 => 124 | 4 => 4 | 36 => 162 | 35 => 161 | 41 => 81 | 5 => 5 | 9 => 9 | 53 => 178 | 57 => 149 | 63 => 193 | 64 => 194 | n => n, fun | n => n⟩
theorem Tryz.sortS : Go.Proofs.SlLaysM.n6 Tryz.prog Tryz.sortS_ren := {
  mixed := by kernel_rfl
  f6 := ⟨Tryz.f64.name, by decide, Tryz.func64.trans (congrArg some (by kernel_rfl))⟩
  f8 := Tryz.func112.trans (congrArg some (by kernel_rfl))
  f9 := ⟨Tryz.f111.name, by decide, Tryz.func111.trans (congrArg some (by kernel_rfl))⟩
  f19 := Tryz.func154.trans (congrArg some (by kernel_rfl))
  f20 := Tryz.func155.trans (congrArg some (by kernel_rfl))
  f21 := ⟨Tryz.f145.name, by decide, Tryz.func145.trans (congrArg some (by kernel_rfl))⟩
  f22 := ⟨Tryz.f146.name, by decide, Tryz.func146.trans (congrArg some (by kernel_rfl))⟩
  f23 := ⟨Tryz.f147.name, by decide, Tryz.func147.trans (congrArg some (by kernel_rfl))⟩
  f24 := ⟨Tryz.f148.name, by decide, Tryz.func148.trans (congrArg some (by kernel_rfl))⟩
  f25 := ⟨Tryz.f149.name, by decide, Tryz.func149.trans (congrArg some (by kernel_rfl))⟩
  f26 := ⟨Tryz.f150.name, by decide, Tryz.func150.trans (congrArg some (by kernel_rfl))⟩
  f27 := ⟨Tryz.f151.name, by decide, Tryz.func151.trans (congrArg some (by kernel_rfl))⟩
  f28 := ⟨Tryz.f152.name, by decide, Tryz.func152.trans (congrArg some (by kernel_rfl))⟩
  f29 := ⟨Tryz.f153.name, by decide, Tryz.func153.trans (congrArg some (by kernel_rfl))⟩
  f31 := Tryz.func176.trans (congrArg some (by kernel_rfl))
  f32 := Tryz.func177.trans (congrArg some (by kernel_rfl))
  f36 := ⟨Tryz.f175.name, by decide, Tryz.func175.trans (congrArg some (by kernel_rfl))⟩
  f37 := ⟨Tryz.f178.name, by decide, Tryz.func178.trans (congrArg some (by kernel_rfl))⟩
  f38 := ⟨Tryz.f179.name, by decide, Tryz.func179.trans (congrArg some (by kernel_rfl))⟩
  f39 := ⟨Tryz.f180.name, by decide, Tryz.func180.trans (congrArg some (by kernel_rfl))⟩
  f41 := ⟨Tryz.f198.name, by decide, Tryz.func198.trans (congrArg some (by kernel_rfl))⟩
  t0 := Tryz.underlying0
  a0 := Tryz.isAgg0
  z0 := Tryz.sizeOf0
  v0 := Tryz.zeroValue0
  t3 := Tryz.underlying3
  a3 := Tryz.isAgg3
  z3 := Tryz.sizeOf3
  v3 := Tryz.zeroValue3
  t4 := Tryz.underlying4
  a4 := Tryz.isAgg4
  z4 := Tryz.sizeOf4
  v4 := Tryz.zeroValue4
  t5 := Tryz.underlying5
  a5 := Tryz.isAgg5
  z5 := Tryz.sizeOf5
  v5 := Tryz.zeroValue5
  t9 := Tryz.underlying9
  a9 := Tryz.isAgg9
  z9 := Tryz.sizeOf9
  v9 := Tryz.zeroValue9
  t26 := Tryz.underlying60
  a26 := Tryz.isAgg60
  z26 := Tryz.sizeOf60
  v26 := Tryz.zeroValue60
  t27 := Tryz.underlying60
  a27 := Tryz.isAgg60
  z27 := Tryz.sizeOf60
  v27 := Tryz.zeroValue60
  t29 := Tryz.underlying9
  a29 := Tryz.isAgg9
  z29 := Tryz.sizeOf9
  v29 := Tryz.zeroValue9
  t32 := Tryz.underlying139
  a32 := Tryz.isAgg139
  z32 := Tryz.sizeOf139
  v32 := Tryz.zeroValue139
  t35 := Tryz.underlying161
  a35 := Tryz.isAgg161
  z35 := Tryz.sizeOf161
  v35 := Tryz.zeroValue161
  t36 := Tryz.underlying162
  a36 := Tryz.isAgg162
  z36 := Tryz.sizeOf162
  v36 := Tryz.zeroValue162
  t41 := Tryz.underlying81
  a41 := Tryz.isAgg81
  z41 := Tryz.sizeOf81
  v41 := Tryz.zeroValue81
  t44 := Tryz.underlying155
  a44 := Tryz.isAgg155
  z44 := Tryz.sizeOf155
  v44 := Tryz.zeroValue155
  t46 := Tryz.underlying124
  a46 := Tryz.isAgg124
  z46 := Tryz.sizeOf124
  v46 := Tryz.zeroValue124
  t53 := Tryz.underlying178
  a53 := Tryz.isAgg178
  z53 := Tryz.sizeOf178
  v53 := Tryz.zeroValue178
  t57 := Tryz.underlying149
  a57 := Tryz.isAgg149
  z57 := Tryz.sizeOf149
  v57 := Tryz.zeroValue149
  t63 := Tryz.underlying193
  a63 := Tryz.isAgg193
  z63 := Tryz.sizeOf193
  v63 := Tryz.zeroValue193
  t64 := Tryz.underlying194
  a64 := Tryz.isAgg194
  z64 := Tryz.sizeOf194
  v64 := Tryz.zeroValue194 }

end Go.Proofs

/- The topics' names, rising. -/
namespace Go.Proofs.YtcffomhcmilcpaaGreat
open Go.RowKit Go.Maps Go.Sort
set_option maxRecDepth 100000
set_option linter.unusedSimpArgs false
set_option linter.unusedVariables false

/-- A topic's name as its bytes. -/
def nmL (l : List Tp) : List (List UInt8) := l.map fun t => t.name.data.toList
def srtL (l : List Tp) : List (List UInt8) := (nmL l).mergeSort (fun x y => decide (x ≤ y))
theorem enc_name (s : ByteArray) : encStr s.data.toList = .string s := by cases s; simp [encStr]
theorem nm_take {l : List Tp} {k : Nat} (h : k < l.length) : (nmL (l.take k)).map encStr ++ [.string l[k].name] = (nmL (l.take (k + 1))).map encStr := by
  rw [List.take_succ_eq_append_getElem h]
  unfold nmL
  rw [List.map_append, List.map_append]
  show _ ++ [_] = _ ++ [encStr l[k].name.data.toList]
  rw [enc_name]
theorem info9 : ∃ i, Tryz.prog.info? 9 = some i ∧ i.zero = some (.string ByteArray.empty) ∧ i.size = 1 ∧ i.bytes = 16 := ⟨_, rfl, rfl, rfl, rfl⟩
/-- The first k names stand in a row of the call's own. -/
def NInv (w wr : World) (T : List Tp) (k : Nat) (v : Value) : Prop := wr.ownsRow w.heap.size 9 1 v k ((nmL (T.take k)).map encStr) ∧ Below w.heap.size w wr
theorem sort_row {w wr : World} {T : List Tp} {v : Value} (h : NInv w wr T T.length v) (hl : T.length ≤ 16) : Calls Tryz.prog 64 #[v] wr fun e w' => e = .returned (.tuple #[]) ∧ w'.ownsRow w.heap.size 9 1 v T.length ((srtL T).map encStr) ∧ Below w.heap.size w w' := by
  obtain ⟨h1, h2⟩ := h
  rw [List.take_length] at h1
  have hlen : (nmL T).length = T.length := by simp [nmL]
  have hown := h1
  rcases h1.2 with ⟨rfl, h0⟩ | ⟨g, cap, cur, rfl, hbase, hb, k1, k2, k3, k4⟩
  · refine (AnyM.slices_Sort_string_none Tryz.sortS none 0 wr).mono ?_
    rintro e w' ⟨rfl, rfl⟩
    have e : T = [] := List.eq_nil_of_length_eq_zero h0
    subst e
    refine ⟨rfl, ?_, h2⟩
    simpa [srtL, nmL] using hown
  · have hH : Holds encStr wr g 0 (nmL T).toArray := holds_of_block hb (by rw [hlen]; simpa using k4)
    have := AnyM.slices_Sort_string Tryz.sortS g 0 cap (nmL T) wr hH (Array.getElem?_eq_some_iff.1 hb).1 (by omega)
    rw [hlen] at this
    refine this.mono ?_
    rintro e w' ⟨rfl, n, os, rfl⟩
    refine ⟨rfl, ?_, h2.grown (grownBy_sorted _) h2.size (fun k hk => by cases hk; exact hbase)⟩
    have := ownsRow_sorted (n := n) (os := os) (ss := nmL T) (ts := srtL T) (by simp [srtL]) hbase hb (by omega) k2 k3
    rw [hlen] at this
    exact this
set_option maxHeartbeats 3200000 in
theorem ktopics_any {w : World} {Z : Nat → Prop} {q : Nat} {I : Im} (hi : Img w Z q I) : Calls Tryz.prog 28 #[.pointer (some ⟨q, 0, none⟩)] w fun e w' => ∃ v, e = .returned v ∧ w'.ownsRow w.heap.size 9 1 v I.tops.length ((srtL I.tops).map encStr) ∧ Below w.heap.size w w' := by
  obtain ⟨j0, hj0, hz0, hz1, hz2⟩ := info9
  obtain ⟨L, b, vt, vp, ve, ps, h, hz4, hz5, hz3⟩ := hi
  have hfew : I.tops.length ≤ 16 := h.ok.topsFew
  obtain ⟨oa, cap, rfl, _, _, _, hat⟩ := row_shape h.tops
  have HI := hid h
  have c2 := h.c2
  have HN0 : Hid (NInv w w I.tops 0 (.slice none 0 0)) := ⟨World.ownsRow_nil _ _ _ _, Below.refl _ _⟩
  have HSO := hid (fun wr v hh => sort_row (w := w) (wr := wr) (T := I.tops) (v := v) hh hfew)
  clear hz4 hz5 hz3 h
  go_enter Tryz.func28, Tryz.ntmps28
  go_wp2_with fail
  go_loopg [3, 11] I.tops.length (fun kx s3 s11 wr => ∃ (k : Nat) (oa' : Option Addr) (c : Nat), k ≤ I.tops.length ∧ I.tops.length - k ≤ kx ∧ s3 = .slice oa' k c ∧ s11 = .int .i64 (k : Int) ∧ Hid (NInv w wr I.tops k (.slice oa' k c)))
  case atStart => exact ⟨0, none, 0, Nat.zero_le _, by omega, rfl, rfl, HN0.out⟩
  case round =>
    obtain ⟨k, oa', c, hk, hkx, rfl, rfl, HK⟩ := hrel
    clear HN0
    by_cases hlt : k < I.tops.length
    · obtain ⟨g, rfl⟩ := hat (by omega)
      obtain ⟨k0, k1, k2⟩ := (HI.out.under HK.out.2).top k _ (List.getElem?_eq_getElem hlt)
      have hlt' : (k : Int) < (I.tops.length : Int) := by omega
      have HNM := hid (nm_take hlt)
      have hbs := HK.out.2.size
      have HB0 := hid HK.out.2
      have HX0 := hid HK.out.1
      generalize I.tops[k] = T at *
      clear c2 HK
      go_upto_region 5 with fail
      have HB1 : Hid (Below w.heap.size w (wr.alloc (.cells #[.string T.name, .int .i64 T.first, .int .i64 T.count] 96))) := HB0.out.alloc hbs _
      have HX1 : Hid ((wr.alloc (.cells #[.string T.name, .int .i64 T.first, .int .i64 T.count] 96)).ownsRow w.heap.size 9 1 (.slice oa' k c) k ((nmL (I.tops.take k)).map encStr)) := HX0.out.alloc _
      have hc0 : (wr.alloc (.cells #[.string T.name, .int .i64 T.first, .int .i64 T.count] 96)).cell? ⟨wr.heap.size, 0, none⟩ = some (.string T.name) := cell_blk (heap_alloc_new _ _) 0 _ rfl
      have hws : (wr.alloc (.cells #[.string T.name, .int .i64 T.first, .int .i64 T.count] 96)).heap.size = wr.heap.size + 1 := by simp
      generalize wr.alloc (.cells #[.string T.name, .int .i64 T.first, .int .i64 T.count] 96) = W1 at *
      have HX : Hid ((W1.alloc (.cells #[.string T.name] 9)).ownsRow w.heap.size 9 1 (.slice oa' k c) k ((nmL (I.tops.take k)).map encStr)) := HX1.out.alloc _
      have HB2 : Hid (Below w.heap.size w (W1.alloc (.cells #[.string T.name] 9))) := HB1.out.alloc HB1.out.size _
      have HN1 : Hid (∀ j u, ([.string T.name] : List Value)[j]? = some u → (W1.alloc (.cells #[.string T.name] 9)).cell? ((⟨W1.heap.size, 0, none⟩ : Addr).add j) = some u) := fun j u hu => by
        cases j with
        | zero => simp at hu; subst hu; rw [add_at]; exact cell_blk (heap_alloc_new _ _) 0 _ rfl
        | succ j => simp at hu
      have HO2 : Hid (∀ u ∈ ([.string T.name] : List Value), u.oneCell' = true) := fun u hu => by simp at hu; subst hu; rfl
      have HWZ : Hid ((W1.alloc (.cells #[.string T.name] 9)).heap.size = W1.heap.size + 1) := by show _ = _; simp
      have hbs1 := HB1.out.size
      have HWS := hid hws
      clear hws
      go_wp2_with (at_builtin; go_loud (refine wpList_append_lies _ rfl _ _ 60 rfl w.heap.size 9 j0 _ 1 16 Tryz.underlying60 hj0 hz0 hz1 hz2 rfl (by decide) _ k _ rfl HX.out ⟨W1.heap.size, 0, none⟩ 1 1 [.string T.name] rfl rfl HN1.out HO2.out (by decide) (by unfold maxLen; omega) (by omega) (by simp; omega) (W1.heap.size + 1) HWZ.out ?_); intro g2 c2 w3 hown3 hg3 hat3 _; have HPS : Hid (NInv w w3 I.tops (k + 1) (.slice (some ⟨g2, 0, none⟩) (k + 1) c2)) := (by rw [HNM.out] at hown3; exact ⟨hown3, HB2.out.grown hg3 HB2.out.size (fun k hk => (World.ownsRow.lt HX.out k hk).1)⟩); clear hown3 hg3 hat3)
      go_roundg (I.tops.length - (k + 1))
      case measure => omega
      case rel => exact ⟨k + 1, some ⟨g2, 0, none⟩, c2, by omega, Nat.le_refl _, rfl, by go_num, HPS.out⟩
    · have hlt' : ¬ (k : Int) < (I.tops.length : Int) := by omega
      obtain rfl : k = I.tops.length := by omega
      go_wp2_with fail
      refine (HSO.out _ _ HK.out).mono ?_
      rintro e w' ⟨rfl, g1, g2⟩
      have G := hid (And.intro g1 g2)
      clear g1 g2 HK
      go_wp2_with fail
      go_ret
      exact ⟨_, rfl, G.out.1, G.out.2⟩
theorem IS.topics {w W : World} {q : Nat} {I : Im} {X : Nat → Prop} (h : IS w W q I X) : Calls Tryz.prog 28 #[.pointer (some ⟨q, 0, none⟩)] W fun e w' => (∃ v, e = .returned v ∧ w'.ownsRow W.heap.size 9 1 v I.tops.length ((srtL I.tops).map encStr)) ∧ Below W.heap.size W w' ∧ IS w w' q I X := by
  obtain ⟨⟨Z, h1, h2⟩, h3, h4⟩ := h
  refine (ktopics_any h1).mono ?_
  rintro e w' ⟨v, rfl, a, hb⟩
  exact ⟨⟨v, rfl, a⟩, hb, IS.under ⟨⟨Z, h1, h2⟩, h3, h4⟩ hb⟩
end Go.Proofs.YtcffomhcmilcpaaGreat

/- The topics' names in their order: what MetaTopics asks of them. -/
namespace Go.Proofs.YtcffomhcmilcpaaGreat
open Go.Sort
set_option linter.unusedSimpArgs false
set_option linter.unusedVariables false

@[reducible] def baOf (l : List UInt8) : ByteArray := ⟨l.toArray⟩
theorem baOf_name (s : ByteArray) : baOf s.data.toList = s := by cases s; simp
theorem less_not : ∀ (a b : List UInt8), Op.bytesLess a b = true → ¬ b ≤ a
  | [], [], h => by simp [Op.bytesLess] at h
  | x :: r, [], h => by simp [Op.bytesLess] at h
  | [], y :: s, _ => by simp
  | x :: r, y :: s, h => by
    simp only [Op.bytesLess, Bool.or_eq_true, Bool.and_eq_true, decide_eq_true_eq, beq_iff_eq] at h
    rw [List.cons_le_cons_iff]
    rcases h with h | ⟨h1, h2⟩
    · rintro (h3 | ⟨h3, _⟩)
      · exact absurd (UInt8.lt_trans h h3) (UInt8.lt_irrefl _)
      · subst h3; exact absurd h (UInt8.lt_irrefl _)
    · subst h1
      rintro (h3 | ⟨_, h3⟩)
      · exact absurd h3 (UInt8.lt_irrefl _)
      · exact less_not r s h2 h3
theorem srt_len (T : List Tp) : (srtL T).length = T.length := by simp [srtL, nmL]
theorem srt_perm (T : List Tp) : (srtL T).Perm (nmL T) := List.mergeSort_perm _ _
theorem nm_nodup {T : List Tp} (h : T.Pairwise (fun s t => sameN s.name t.name = false)) : (nmL T).Nodup := by
  unfold nmL
  rw [List.Nodup, List.pairwise_map]
  refine h.imp ?_
  intro s t hst e
  have e2 : s.name = t.name := by rw [← baOf_name s.name, ← baOf_name t.name, e]
  rw [e2, sameN_self] at hst
  cases hst
theorem srt_rise {T : List Tp} (h : T.Pairwise (fun s t => sameN s.name t.name = false)) {i j : Nat} (hij : i < j) (hj : j < (srtL T).length) : Op.bytesLess (srtL T)[j] (srtL T)[i] = false ∧ ((srtL T)[j] == (srtL T)[i]) = false := by
  have h1 : (srtL T).Pairwise (fun a b => decide (a ≤ b) = true) := List.pairwise_mergeSort (fun a b c h1 h2 => by
    simp only [decide_eq_true_eq] at h1 h2 ⊢
    exact List.le_trans h1 h2) (fun a b => by
    have := List.le_total a b
    simpa using this) _
  have h2 : (srtL T).Nodup := (srt_perm T).nodup_iff.2 (nm_nodup h)
  have a1 := List.pairwise_iff_getElem.1 h1 i j (by omega) hj hij
  have a2 := List.pairwise_iff_getElem.1 h2 i j (by omega) hj hij
  constructor
  · cases e : Op.bytesLess (srtL T)[j] (srtL T)[i]
    · rfl
    · exact absurd (of_decide_eq_true a1) (less_not _ _ e)
  · rw [beq_eq_false_iff_ne]
    exact fun e => a2 e.symm
theorem srt_has {T : List Tp} {k : Nat} (hk : k < (srtL T).length) : hasT T (baOf (srtL T)[k]) = true := by
  have : (srtL T)[k] ∈ nmL T := (srt_perm T).mem_iff.1 (List.getElem_mem hk)
  obtain ⟨t, ht, e⟩ := List.mem_map.1 this
  rw [← e, baOf_name]
  exact List.any_eq_true.2 ⟨t, ht, sameN_self _⟩
/-- How many partitions the first k names have. -/
def sumN (T : List Tp) (k : Nat) : Nat := (((srtL T).take k).map fun x => (cntT T (baOf x)).toNat).sum
theorem sumN_succ {T : List Tp} {k : Nat} (hk : k < (srtL T).length) : sumN T (k + 1) = sumN T k + (cntT T (baOf (srtL T)[k])).toNat := by
  unfold sumN
  rw [List.take_succ_eq_append_getElem hk, List.map_append, List.sum_append]
  simp only [List.map_cons, List.map_nil, List.sum_cons, List.sum_nil, Nat.add_zero]
theorem sumN_find {T : List Tp} (h : T.Pairwise (fun s t => sameN s.name t.name = false)) {k : Nat} (hk : k < (srtL T).length) {t : Tp} (ht : t ∈ T) (hs : sameN t.name (baOf (srtL T)[k]) = true) : sumN T k + (idsT t).length = sumN T (k + 1) := by
  rw [sumN_succ hk, ← sameN_iff.1 hs, cnt_of h ht]
  simp [idsT]
theorem sum_toNat : ∀ (l : List Tp), (∀ t ∈ l, 1 ≤ t.count) → (((l.map fun t => t.count.toNat).sum : Nat) : Int) = sumT l
  | [], _ => rfl
  | t :: r, h => by
    have h1 := h t (by simp)
    have h2 := sum_toNat r (fun x hx => h x (by simp [hx]))
    simp only [List.map_cons, List.sum_cons, sumT]
    push_cast
    omega
theorem sumN_all {T : List Tp} (h : T.Pairwise (fun s t => sameN s.name t.name = false)) (hc : ∀ t ∈ T, 1 ≤ t.count) : (sumN T T.length : Int) = sumT T := by
  rw [← sum_toNat T hc]
  unfold sumN
  rw [← srt_len T, List.take_length]
  have h1 := ((srt_perm T).map (fun x => (cntT T (baOf x)).toNat)).sum_nat
  rw [h1]
  unfold nmL
  rw [List.map_map]
  congr 2
  refine List.map_congr_left fun t ht => ?_
  simp only [Function.comp]
  rw [baOf_name, cnt_of h ht]
theorem sumN_le {T : List Tp} (h : T.Pairwise (fun s t => sameN s.name t.name = false)) (hc : ∀ t ∈ T, 1 ≤ t.count) {k : Nat} (hk : k ≤ T.length) : sumN T k ≤ sumN T T.length := by
  have mono : ∀ d k, k + d = T.length → sumN T k ≤ sumN T T.length := by
    intro d
    induction d with
    | zero => intro k hk; rw [← hk]; exact Nat.le_refl _
    | succ d ih =>
      intro k hk
      have h1 := ih (k + 1) (by omega)
      have h2 := sumN_succ (T := T) (k := k) (by rw [srt_len]; omega)
      omega
  exact mono (T.length - k) k (by omega)
/-- Each record counts. -/
theorem applied_do (I : Im) (r : Rc) : (doI I r).1.applied = I.applied := by
  unfold doI
  split
  · unfold registerI
    split
    · rfl
    · split
      · rfl
      · show (if _ then putOffI I r.a else I).applied = _
        split <;> rfl
  · split
    · unfold fenceI
      split <;> rfl
    · split
      · unfold unfenceI
        split <;> rfl
      · split
        · unfold topicI
          split
          · rfl
          · split
            · rfl
            · split <;> rfl
        · split
          · unfold turnI
            split <;> rfl
          · split
            · unfold pidI
              split
              · rfl
              · split
                · rfl
                · split
                  · split <;> rfl
                  · split <;> rfl
            · rfl
theorem applied_apply (I : Im) (r : Rc) : (applyI I r).1.applied = I.applied + 1 := applied_do _ _
/-- What MetaTopics sees of a partition. -/
theorem part_facts {n : Nat} {I : Im} (ho : ImOk I) (hk : TopK (n : Int) I) {i : Nat} (hi : i < I.parts.length) : I.parts[i].id = (i : Int) + 1 ∧ 0 < I.parts[i].reps.length ∧ (∀ h : 0 < I.parts[i].reps.length, I.parts[i].leader = I.parts[i].reps[0]) ∧ I.parts[i].reps.length ≤ n ∧ I.parts[i].reps.Nodup ∧ ∀ x ∈ I.parts[i].reps, 1 ≤ x ∧ x ≤ (n : Int) := by
  obtain ⟨h1, h2⟩ := ho.parts i _ (List.getElem?_eq_getElem hi)
  have hm : I.parts[i] ∈ I.parts := List.getElem_mem hi
  have hr := hk.reps _ hm
  have h0 : 0 < I.parts[i].reps.length := by
    obtain ⟨x, hx⟩ := List.exists_mem_of_ne_nil _ h1.some
    exact List.length_pos_of_mem (h1.isrIn x hx)
  exact ⟨h2, h0, fun h => by rw [hk.lead _ hm]; exact headL_get h, few_len n _ h1.reps.1 hr, h1.reps.1, hr⟩
theorem take_lacks {l : List Int} (h : l.Nodup) {k : Nat} (hk : k < l.length) : hasB (l.take k) l[k] = false := by
  cases e : hasB (l.take k) l[k]
  · rfl
  · have : l[k] ∈ l.take k := by simpa [hasB] using e
    obtain ⟨j, hj, e2⟩ := List.mem_take_iff_getElem.1 this
    exact absurd e2 (List.pairwise_iff_getElem.1 h j k (by omega) hk (by omega))
end Go.Proofs.YtcffomhcmilcpaaGreat

/- CRC-32C on lists of bytes: its bounds, and that one byte that is another one makes it another one. -/
namespace Go.Proofs.YtcffomhcmilcpaaGreat.W
set_option linter.unusedSimpArgs false
set_option linter.unusedVariables false

def crcBit (c : Nat) : Nat := if c % 2 = 1 then (c / 2) ^^^ 2197175160 else c / 2
def crcBits : Nat → Nat → Nat
  | 0, c => c
  | k + 1, c => crcBit (crcBits k c)
def crcByte (c : Nat) (b : UInt8) : Nat := crcBits 8 (c ^^^ b.toNat)
def crcRun (c : Nat) (l : List UInt8) : Nat := l.foldl crcByte c
def crcL (l : List UInt8) : Nat := crcRun 4294967295 l ^^^ 4294967295

theorem xor_lt (a b : Nat) (ha : a < 4294967296) (hb : b < 4294967296) : a ^^^ b < 4294967296 := Nat.xor_lt_two_pow (n := 32) ha hb
theorem u8_lt (b : UInt8) : b.toNat < 4294967296 := by have := b.toNat_lt; omega

theorem crcBit_lt (c : Nat) (h : c < 4294967296) : crcBit c < 4294967296 := by
  unfold crcBit
  split
  · exact xor_lt _ _ (by omega) (by omega)
  · omega
theorem crcBits_lt (c : Nat) (h : c < 4294967296) : ∀ k, crcBits k c < 4294967296
  | 0 => h
  | k + 1 => crcBit_lt _ (crcBits_lt c h k)
theorem crcByte_lt (c : Nat) (b : UInt8) (h : c < 4294967296) : crcByte c b < 4294967296 := crcBits_lt _ (xor_lt _ _ h (u8_lt b)) 8
theorem crcRun_lt : ∀ (l : List UInt8) (c : Nat), c < 4294967296 → crcRun c l < 4294967296
  | [], c, h => h
  | b :: r, c, h => crcRun_lt r (crcByte c b) (crcByte_lt c b h)
theorem crcL_lt (l : List UInt8) : crcL l < 4294967296 := xor_lt _ _ (crcRun_lt l _ (by omega)) (by omega)

theorem crcRun_snoc (c : Nat) (l : List UInt8) (b : UInt8) : crcRun c (l ++ [b]) = crcByte (crcRun c l) b := by simp [crcRun]
theorem crcRun_append (c : Nat) (l m : List UInt8) : crcRun c (l ++ m) = crcRun (crcRun c l) m := by simp [crcRun]

theorem xor_cancel {a b c : Nat} (h : a ^^^ c = b ^^^ c) : a = b := by
  have h1 : (a ^^^ c) ^^^ c = (b ^^^ c) ^^^ c := by rw [h]
  rwa [Nat.xor_assoc, Nat.xor_self, Nat.xor_zero, Nat.xor_assoc, Nat.xor_self, Nat.xor_zero] at h1
theorem xor_cancel_left {a b c : Nat} (h : c ^^^ a = c ^^^ b) : a = b := by
  rw [Nat.xor_comm c a, Nat.xor_comm c b] at h
  exact xor_cancel h

theorem top_odd (c : Nat) (h : c < 4294967296) : ((c / 2) ^^^ 2197175160).testBit 31 = true := by
  have h1 : (c / 2).testBit 31 = false := Nat.testBit_lt_two_pow (by omega)
  have h2 : (2197175160 : Nat).testBit 31 = true := by decide
  rw [Nat.testBit_xor, h1, h2]; rfl
theorem top_even (c : Nat) (h : c < 4294967296) : (c / 2).testBit 31 = false := Nat.testBit_lt_two_pow (by omega)

theorem crcBit_inj (c d : Nat) (hc : c < 4294967296) (hd : d < 4294967296) (h : crcBit c = crcBit d) : c = d := by
  unfold crcBit at h
  by_cases h1 : c % 2 = 1
  · rw [if_pos h1] at h
    by_cases h2 : d % 2 = 1
    · rw [if_pos h2] at h
      have := xor_cancel h
      omega
    · rw [if_neg h2] at h
      have e1 := top_odd c hc
      rw [h, top_even d hd] at e1
      cases e1
  · rw [if_neg h1] at h
    by_cases h2 : d % 2 = 1
    · rw [if_pos h2] at h
      have e1 := top_odd d hd
      rw [← h, top_even c hc] at e1
      cases e1
    · rw [if_neg h2] at h
      omega
theorem crcBits_inj (c d : Nat) (hc : c < 4294967296) (hd : d < 4294967296) : ∀ k, crcBits k c = crcBits k d → c = d
  | 0, h => h
  | k + 1, h => crcBits_inj c d hc hd k (crcBit_inj _ _ (crcBits_lt c hc k) (crcBits_lt d hd k) h)
theorem crcByte_inj (c d : Nat) (b : UInt8) (hc : c < 4294967296) (hd : d < 4294967296) (h : crcByte c b = crcByte d b) : c = d :=
  xor_cancel (crcBits_inj _ _ (xor_lt _ _ hc (u8_lt b)) (xor_lt _ _ hd (u8_lt b)) 8 h)
theorem crcByte_byte (c : Nat) (a b : UInt8) (hc : c < 4294967296) (h : crcByte c a = crcByte c b) : a = b :=
  UInt8.toNat_inj.1 (xor_cancel_left (crcBits_inj _ _ (xor_lt _ _ hc (u8_lt a)) (xor_lt _ _ hc (u8_lt b)) 8 h))
theorem crcRun_inj : ∀ (l : List UInt8) (c d : Nat), c < 4294967296 → d < 4294967296 → crcRun c l = crcRun d l → c = d
  | [], c, d, _, _, h => h
  | b :: r, c, d, hc, hd, h => crcByte_inj c d b hc hd (crcRun_inj r _ _ (crcByte_lt c b hc) (crcByte_lt d b hd) h)

/-- One byte that is another one: another checksum. -/
theorem crcL_other (p s : List UInt8) (a b : UInt8) (h : crcL (p ++ a :: s) = crcL (p ++ b :: s)) : a = b := by
  have h1 := xor_cancel h
  rw [crcRun_append, crcRun_append] at h1
  have hp := crcRun_lt p 4294967295 (by omega)
  exact crcByte_byte _ a b hp (crcRun_inj s _ _ (crcByte_lt _ a hp) (crcByte_lt _ b hp) h1)
theorem crcL_set (l : List UInt8) (k : Nat) (x : UInt8) (hk : k < l.length) (h : crcL (l.set k x) = crcL l) : x = l[k] := by
  have e1 : l = l.take k ++ l[k] :: l.drop (k + 1) := by rw [← List.drop_eq_getElem_cons hk, List.take_append_drop]
  have e2 : l.set k x = l.take k ++ x :: l.drop (k + 1) := by rw [List.set_eq_take_append_cons_drop, if_pos hk]
  have e3 : crcL l = crcL (l.take k ++ l[k] :: l.drop (k + 1)) := congrArg crcL e1
  rw [e2, e3] at h
  exact crcL_other _ _ _ _ h
end Go.Proofs.YtcffomhcmilcpaaGreat.W

/- Ints by sevens, on lists of bytes: written, read, and read as they were written. -/
namespace Go.Proofs.YtcffomhcmilcpaaGreat.W
set_option linter.unusedSimpArgs false
set_option linter.unusedVariables false

def zz (n : Int) : Nat := if n < 0 then 2 * (-(n + 1)).toNat + 1 else 2 * n.toNat
def unzz (z : Nat) : Int := if z % 2 = 1 then -((z / 2 : Nat) : Int) - 1 else ((z / 2 : Nat) : Int)

theorem unzz_zz (n : Int) : unzz (zz n) = n := by unfold unzz zz; split <;> split <;> omega
theorem zz_lt (n : Int) (h1 : -9223372036854775808 ≤ n) (h2 : n ≤ 9223372036854775807) : zz n < 18446744073709551616 := by unfold zz; split <;> omega
theorem zz_inj {n m : Int} (h : zz n = zz m) : n = m := by rw [← unzz_zz n, ← unzz_zz m, h]
theorem unzz_range (z : Nat) (h : z < 18446744073709551616) : -9223372036854775808 ≤ unzz z ∧ unzz z ≤ 9223372036854775807 := by unfold unzz; split <;> omega

/-- A number's digits to the base 128, the lowest first; f more than one at most. -/
def digs : Nat → Nat → List UInt8
  | 0, z => [UInt8.ofNat z]
  | f + 1, z => if z < 128 then [UInt8.ofNat z] else UInt8.ofNat (z % 128 + 128) :: digs f (z / 128)

def intL (n : Int) : List UInt8 := digs 9 (zz n)

theorem digs_length : ∀ f z, 1 ≤ (digs f z).length ∧ (digs f z).length ≤ f + 1
  | 0, z => by simp [digs]
  | f + 1, z => by
    have := digs_length f (z / 128)
    unfold digs
    split
    · simp
    · simp; omega
theorem intL_length (n : Int) : 1 ≤ (intL n).length ∧ (intL n).length ≤ 10 := digs_length 9 _

/-- The bytes at the front as digits: the number, how many, the error. -/
def rdZ : Nat → Nat → Nat → List UInt8 → Nat × Nat × Int
  | 0, _, _, _ => (0, 0, 4)
  | _ + 1, _, _, [] => (0, 0, 5)
  | f + 1, i, z, d :: r =>
    if (i = 9 ∧ 1 < d.toNat) ∨ (0 < i ∧ d.toNat = 0) then (0, 0, 4)
    else if d.toNat < 128 then (z + d.toNat * 128 ^ i, i + 1, 0)
    else rdZ f (i + 1) (z + d.toNat % 128 * 128 ^ i) r

def okI (r : Nat × Nat × Int) : Int × Nat × Int := if r.2.2 = 0 then (unzz r.1, r.2.1, 0) else (0, 0, r.2.2)
def readL (l : List UInt8) : Int × Nat × Int := okI (rdZ 10 0 0 l)

theorem toNat_u8 (n : Nat) (h : n < 256) : (UInt8.ofNat n).toNat = n := by simp; omega

theorem pow_step (f i : Nat) (h : i + (f + 1) = 9) : 128 ^ (f + 1) = 128 * 128 ^ f := by rw [Nat.pow_succ, Nat.mul_comm]

theorem rdZ_digs : ∀ (f i z0 z : Nat) (more : List UInt8), i + f = 9 → z < 2 * 128 ^ f → (i = 0 ∨ 0 < z) →
    rdZ (f + 1) i z0 (digs f z ++ more) = (z0 + z * 128 ^ i, i + (digs f z).length, 0)
  | 0, i, z0, z, more, hi, hz, h0 => by
    have hz' : z < 2 := by simpa using hz
    have e := toNat_u8 z (by omega)
    have hi' : i = 9 := by omega
    have hc : ¬ ((i = 9 ∧ 1 < z) ∨ (0 < i ∧ z = 0)) := by omega
    simp only [digs, List.cons_append, List.nil_append, rdZ, e, if_neg hc, if_pos (show z < 128 by omega), List.length_singleton]
  | f + 1, i, z0, z, more, hi, hz, h0 => by
    rw [pow_step f i hi] at hz
    by_cases hz1 : z < 128
    · have e := toNat_u8 z (by omega)
      have hc : ¬ ((i = 9 ∧ 1 < z) ∨ (0 < i ∧ z = 0)) := by omega
      simp only [digs, if_pos hz1, List.cons_append, List.nil_append, rdZ, e, if_neg hc, List.length_singleton]
    · have e := toNat_u8 (z % 128 + 128) (by omega)
      have hc : ¬ ((i = 9 ∧ 1 < z % 128 + 128) ∨ (0 < i ∧ z % 128 + 128 = 0)) := by omega
      have ih := rdZ_digs f (i + 1) (z0 + (z % 128 + 128) % 128 * 128 ^ i) (z / 128) more (by omega) (by omega) (by omega)
      simp only [digs, if_neg hz1, List.cons_append]
      rw [rdZ, e, if_neg hc, if_neg (by omega), ih]
      have e1 : (z % 128 + 128) % 128 = z % 128 := by omega
      have e2 : z * 128 ^ i = z % 128 * 128 ^ i + z / 128 * 128 ^ (i + 1) := by
        have h3 : z = z % 128 + 128 * (z / 128) := by omega
        have h4 : z * 128 ^ i = (z % 128 + 128 * (z / 128)) * 128 ^ i := by rw [← h3]
        rw [h4, Nat.add_mul, Nat.pow_succ, Nat.mul_comm 128 (z / 128), Nat.mul_assoc, Nat.mul_comm 128 (128 ^ i)]
      rw [e1, e2]
      simp only [List.length_cons, Prod.mk.injEq, and_true]
      omega

theorem readL_intL (n : Int) (more : List UInt8) (h1 : -9223372036854775808 ≤ n) (h2 : n ≤ 9223372036854775807) :
    readL (intL n ++ more) = (n, (intL n).length, 0) := by
  have hz := zz_lt n h1 h2
  have := rdZ_digs 9 0 0 (zz n) more rfl (by show zz n < 18446744073709551616; exact hz) (.inl rfl)
  unfold readL intL
  rw [this]
  simp [okI, unzz_zz]

theorem rdZ_range : ∀ (f i z : Nat) (l : List UInt8), i + f = 10 → z < 128 ^ i → (rdZ f i z l).1 < 18446744073709551616 ∧ (rdZ f i z l).2.1 ≤ i + l.length ∧ (rdZ f i z l).2.1 ≤ 10
  | 0, _, _, _, _, _ => by simp [rdZ]
  | _ + 1, _, _, [], _, _ => by simp [rdZ]
  | f + 1, i, z, d :: r, hi, hz => by
    have hp : 128 ^ i ≤ 128 ^ 9 := Nat.pow_le_pow_right (by omega) (by omega)
    have h9 : (128 : Nat) ^ 9 = 9223372036854775808 := by decide
    unfold rdZ
    split
    · simp
    · rename_i hc
      split
      · rename_i hd
        refine ⟨?_, by simp, by simp only; omega⟩
        show z + d.toNat * 128 ^ i < _
        by_cases h : i = 9
        · have hd1 : d.toNat ≤ 1 := by omega
          have : d.toNat * 128 ^ i ≤ 1 * 128 ^ i := Nat.mul_le_mul_right _ hd1
          omega
        · have hp8 : 128 ^ i ≤ 128 ^ 8 := Nat.pow_le_pow_right (by omega) (by omega)
          have h8 : (128 : Nat) ^ 8 = 72057594037927936 := by decide
          have : d.toNat * 128 ^ i ≤ 127 * 128 ^ i := Nat.mul_le_mul_right _ (by omega)
          omega
      · have e : 128 ^ (i + 1) = 128 * 128 ^ i := by rw [Nat.pow_succ, Nat.mul_comm]
        have h127 : d.toNat % 128 * 128 ^ i ≤ 127 * 128 ^ i := Nat.mul_le_mul_right _ (by omega)
        have ih := rdZ_range f (i + 1) (z + d.toNat % 128 * 128 ^ i) r (by omega) (by omega)
        refine ⟨ih.1, ?_, ih.2.2⟩
        have := ih.2.1
        simp only [List.length_cons]
        omega

theorem readL_range (l : List UInt8) : (-9223372036854775808 ≤ (readL l).1 ∧ (readL l).1 ≤ 9223372036854775807) ∧ (readL l).2.1 ≤ l.length ∧ (readL l).2.1 ≤ 10 := by
  have h := rdZ_range 10 0 0 l rfl (by simp)
  unfold readL okI
  split
  · exact ⟨unzz_range _ h.1, by have := h.2.1; simp only; omega, h.2.2⟩
  · exact ⟨⟨by simp, by simp⟩, by simp, by simp⟩

theorem rdZ_err : ∀ (f i z : Nat) (l : List UInt8), (rdZ f i z l).2.2 = 0 ∨ (rdZ f i z l).2.2 = 4 ∨ (rdZ f i z l).2.2 = 5
  | 0, _, _, _ => by simp [rdZ]
  | _ + 1, _, _, [] => by simp [rdZ]
  | f + 1, i, z, d :: r => by
    have ih := rdZ_err f (i + 1) (z + d.toNat % 128 * 128 ^ i) r
    unfold rdZ
    split
    · simp
    · split
      · simp
      · exact ih
theorem readL_err (l : List UInt8) : (readL l).2.2 = 0 ∨ (readL l).2.2 = 4 ∨ (readL l).2.2 = 5 := by
  have h := rdZ_err 10 0 0 l
  unfold readL okI
  split
  · simp
  · exact h

theorem intL_inj {n m : Int} (hn : -9223372036854775808 ≤ n) (hn' : n ≤ 9223372036854775807) (hm : -9223372036854775808 ≤ m) (hm' : m ≤ 9223372036854775807) (h : intL n = intL m) : n = m := by
  have a := readL_intL n [] hn hn'
  have b := readL_intL m [] hm hm'
  rw [h, b] at a
  simpa using congrArg (·.1) a.symm
end Go.Proofs.YtcffomhcmilcpaaGreat.W

/- Batches and records of metadata as bytes, on lists: what may be, what is written, what is read. -/
namespace Go.Proofs.YtcffomhcmilcpaaGreat.W
set_option linter.unusedSimpArgs false
set_option linter.unusedVariables false

structure Rec where
  key : List UInt8
  val : List UInt8
  time : Int

structure Bat where
  base : Int
  epoch : Int
  pid : Int
  pidEpoch : Int
  seq : Int
  recs : List Rec

structure Met where
  kind : Int
  a : Int
  b : Int
  c : Int
  d : Int
  name : List UInt8
  text : List UInt8
  list : List Int

def zeroBat : Bat := ⟨0, 0, 0, 0, 0, []⟩
def zeroMet : Met := ⟨0, 0, 0, 0, 0, [], [], []⟩

def textL (t : List UInt8) : List UInt8 := intL t.length ++ t
def recL (r : Rec) : List UInt8 := intL r.time ++ textL r.key ++ textL r.val
def recsL : List Rec → List UInt8
  | [] => []
  | r :: s => recL r ++ recsL s
def intsL : List Int → List UInt8
  | [] => []
  | n :: s => intL n ++ intsL s
def numsOf (b : Bat) : List Int := [b.base, b.epoch, b.pid, b.pidEpoch, b.seq]
def bodyL (b : Bat) : List UInt8 := intsL (numsOf b) ++ intL b.recs.length ++ recsL b.recs
def metaL (m : Met) : List UInt8 := intsL [m.kind, m.a, m.b, m.c, m.d] ++ textL m.name ++ textL m.text ++ intL m.list.length ++ intsL m.list

theorem recsL_append : ∀ l m : List Rec, recsL (l ++ m) = recsL l ++ recsL m
  | [], m => rfl
  | r :: s, m => by simp [recsL, recsL_append s m]
theorem intsL_append : ∀ l m : List Int, intsL (l ++ m) = intsL l ++ intsL m
  | [], m => rfl
  | r :: s, m => by simp [intsL, intsL_append s m]
theorem recsL_snoc (l : List Rec) (r : Rec) : recsL (l ++ [r]) = recsL l ++ recL r := by rw [recsL_append]; simp [recsL]
theorem intsL_snoc (l : List Int) (n : Int) : intsL (l ++ [n]) = intsL l ++ intL n := by rw [intsL_append]; simp [intsL]
theorem textL_length (t : List UInt8) : (textL t).length ≤ 10 + t.length := by
  have := intL_length t.length
  simp [textL]; omega
theorem recL_length (r : Rec) : (recL r).length ≤ 30 + r.key.length + r.val.length := by
  have := intL_length r.time
  have := textL_length r.key
  have := textL_length r.val
  simp [recL]; omega
theorem recsL_length (m : Nat) : ∀ l : List Rec, (∀ r ∈ l, r.key.length ≤ m ∧ r.val.length ≤ m) → (recsL l).length ≤ l.length * (30 + 2 * m)
  | [], _ => by simp [recsL]
  | r :: s, h => by
    have h1 := recL_length r
    have h2 := h r (by simp)
    have h3 := recsL_length m s (fun x hx => h x (by simp [hx]))
    simp only [recsL, List.length_append, List.length_cons, Nat.add_mul]
    omega
theorem intsL_length : ∀ l : List Int, (intsL l).length ≤ l.length * 10
  | [] => by simp [intsL]
  | n :: s => by
    have h1 := intL_length n
    have h3 := intsL_length s
    simp only [intsL, List.length_append, List.length_cons, Nat.add_mul]
    omega

/-- Four bytes, the highest first. -/
def fourL (n : Nat) : List UInt8 := [UInt8.ofNat (n / 16777216), UInt8.ofNat (n / 65536), UInt8.ofNat (n / 256), UInt8.ofNat n]
def fourN : List UInt8 → Nat
  | a :: b :: c :: d :: _ => a.toNat * 16777216 + b.toNat * 65536 + c.toNat * 256 + d.toNat
  | _ => 0
theorem fourN_fourL (n : Nat) (more : List UInt8) (h : n < 4294967296) : fourN (fourL n ++ more) = n := by
  simp [fourL, fourN]; omega
theorem fourN_lt (l : List UInt8) : fourN l < 4294967296 := by
  unfold fourN
  split
  · rename_i a b c d r
    have := a.toNat_lt; have := b.toNat_lt; have := c.toNat_lt; have := d.toNat_lt
    omega
  · omega

/- What may be. -/
def inB (n : Int) : Bool := decide (0 ≤ n) && decide (n ≤ 1000000000)
def numsB (b : Bat) : Bool := decide (0 ≤ b.base) && inB b.epoch && inB b.pid && inB b.pidEpoch && inB b.seq && (!(b.pid == 0) || (b.pidEpoch == 0 && b.seq == 0))
def timesB (l : List Rec) : Bool := l.all fun r => inB r.time
def longB (l : List Rec) : Bool := l.any fun r => decide (1000 < r.key.length) || decide (1000 < r.val.length)
def overB (b : Bat) : Bool := decide (1000000000 - ((b.recs.length : Int) - 1) < b.base) || decide (1000000 - ((b.recs.length : Int) - 1) < b.seq)
def rightL (b : Bat) : Int :=
  if (numsB b && timesB b.recs && !b.recs.isEmpty) = false then 1
  else if 64 < b.recs.length then 3
  else if longB b.recs = true then 2
  else if overB b = true then 20
  else if 4096 < (bodyL b).length + 8 then 2 else 0

theorem rightL_ok {b : Bat} (h : rightL b = 0) : numsB b = true ∧ timesB b.recs = true ∧ b.recs ≠ [] ∧ b.recs.length ≤ 64 ∧ longB b.recs = false ∧ overB b = false ∧ (bodyL b).length ≤ 4088 := by
  unfold rightL at h
  by_cases h1 : (numsB b && timesB b.recs && !b.recs.isEmpty) = false
  · rw [if_pos h1] at h; cases h
  rw [if_neg h1] at h
  by_cases h2 : 64 < b.recs.length
  · rw [if_pos h2] at h; cases h
  rw [if_neg h2] at h
  by_cases h3 : longB b.recs = true
  · rw [if_pos h3] at h; cases h
  rw [if_neg h3] at h
  by_cases h4 : overB b = true
  · rw [if_pos h4] at h; cases h
  rw [if_neg h4] at h
  by_cases h5 : 4096 < (bodyL b).length + 8
  · rw [if_pos h5] at h; cases h
  simp at h1 h3 h4
  exact ⟨h1.1, h1.2.1, h1.2.2, by omega, h3, h4, by omega⟩

def batchL (b : Bat) : List UInt8 × Int := if rightL b = 0 then (fourL (bodyL b).length ++ fourL (crcL (bodyL b)) ++ bodyL b, 0) else ([], rightL b)

def metB (m : Met) : Int :=
  if 32 < m.name.length ∨ 1000 < m.text.length then 2
  else if 64 < m.list.length then 3
  else if 2048 < (metaL m).length + 4 then 2 else 0
def metaW (m : Met) : List UInt8 × Int := if metB m = 0 then (fourL (crcL (metaL m)) ++ metaL m, 0) else ([], metB m)

/- A reader: what is left; was anything wrong? -/
structure RS where
  rest : List UInt8
  wrong : Bool
def spoiled : RS := ⟨[], true⟩
def numS (s : RS) : Int × RS := if (readL s.rest).2.2 = 0 then ((readL s.rest).1, ⟨s.rest.drop (readL s.rest).2.1, s.wrong⟩) else (0, spoiled)
def countS (most : Int) (s : RS) : Int × RS := if (numS s).1 < 0 ∨ most < (numS s).1 then (0, spoiled) else numS s
def textS (most : Int) (s : RS) : List UInt8 × RS :=
  if ((countS most s).2.rest.length : Int) < (countS most s).1 then ([], spoiled)
  else ((countS most s).2.rest.take (countS most s).1.toNat, ⟨(countS most s).2.rest.drop (countS most s).1.toNat, (countS most s).2.wrong⟩)
def recS (s : RS) : Rec × RS :=
  (⟨(textS 1000 (numS s).2).1, (textS 1000 (textS 1000 (numS s).2).2).1, (numS s).1⟩, (textS 1000 (textS 1000 (numS s).2).2).2)
def recsS : Nat → RS → List Rec × RS
  | 0, s => ([], s)
  | n + 1, s => ((recsS n s).1 ++ [(recS (recsS n s).2).1], (recS (recsS n s).2).2)
def numsS : Nat → RS → List Int × RS
  | 0, s => ([], s)
  | n + 1, s => ((numsS n s).1 ++ [(numS (numsS n s).2).1], (numS (numsS n s).2).2)
def doneS (s : RS) : Bool := !s.wrong && s.rest.isEmpty

/-- A batch's body, read: the batch, and whether the bytes have the form. -/
def bodyS (l : List UInt8) : Bat × Bool :=
  let s0 : RS := ⟨l, false⟩
  let a1 := numS s0
  let a2 := numS a1.2
  let a3 := numS a2.2
  let a4 := numS a3.2
  let a5 := numS a4.2
  let c := countS 64 a5.2
  let r := recsS c.1.toNat c.2
  (⟨a1.1, a2.1, a3.1, a4.1, a5.1, r.1⟩, doneS r.2)
def readBatchL (l : List UInt8) : Bat × Nat × Int :=
  if l.length < 8 then (zeroBat, 0, 5)
  else if 4096 < 8 + fourN l then (zeroBat, 0, 2)
  else if l.length < 8 + fourN l then (zeroBat, 0, 5)
  else if fourN (l.drop 4) ≠ crcL ((l.drop 8).take (fourN l)) then (zeroBat, 0, 6)
  else if (bodyS ((l.drop 8).take (fourN l))).2 = false ∨ rightL (bodyS ((l.drop 8).take (fourN l))).1 ≠ 0 then (zeroBat, 0, 4)
  else ((bodyS ((l.drop 8).take (fourN l))).1, 8 + fourN l, 0)

def metS (l : List UInt8) : Met × Bool :=
  let s0 : RS := ⟨l, false⟩
  let a1 := numS s0
  let a2 := numS a1.2
  let a3 := numS a2.2
  let a4 := numS a3.2
  let a5 := numS a4.2
  let n := textS 32 a5.2
  let t := textS 1000 n.2
  let c := countS 64 t.2
  let r := numsS c.1.toNat c.2
  (⟨a1.1, a2.1, a3.1, a4.1, a5.1, n.1, t.1, r.1⟩, doneS r.2)
def readMetaL (l : List UInt8) : Met × Int :=
  if l.length < 4 then (zeroMet, 5)
  else if 2048 < l.length then (zeroMet, 2)
  else if fourN l ≠ crcL (l.drop 4) then (zeroMet, 6)
  else if (metS (l.drop 4)).2 = false then (zeroMet, 4)
  else ((metS (l.drop 4)).1, 0)

/- What is written is read as it was. -/
def I64 (n : Int) : Prop := -9223372036854775808 ≤ n ∧ n ≤ 9223372036854775807

theorem numS_intL (n : Int) (more : List UInt8) (h : I64 n) : numS ⟨intL n ++ more, false⟩ = (n, ⟨more, false⟩) := by
  unfold numS
  simp [readL_intL n more h.1 h.2]
theorem countS_intL (most n : Int) (more : List UInt8) (h : I64 n) (h0 : 0 ≤ n) (h1 : n ≤ most) : countS most ⟨intL n ++ more, false⟩ = (n, ⟨more, false⟩) := by
  unfold countS
  rw [numS_intL n more h, if_neg (by simp only; omega)]
theorem textS_textL (most : Int) (t more : List UInt8) (h : (t.length : Int) ≤ most) (hm : most ≤ 1000) : textS most ⟨textL t ++ more, false⟩ = (t, ⟨more, false⟩) := by
  have e : textL t ++ more = intL t.length ++ (t ++ more) := by simp [textL]
  unfold textS
  rw [e, countS_intL most t.length (t ++ more) ⟨by omega, by omega⟩ (by omega) h, if_neg (by simp; omega)]
  simp
theorem recS_recL (r : Rec) (more : List UInt8) (ht : I64 r.time) (hk : r.key.length ≤ 1000) (hv : r.val.length ≤ 1000) : recS ⟨recL r ++ more, false⟩ = (r, ⟨more, false⟩) := by
  have e : recL r ++ more = intL r.time ++ (textL r.key ++ (textL r.val ++ more)) := by simp [recL]
  unfold recS
  rw [e, numS_intL _ _ ht]
  simp only
  rw [textS_textL 1000 r.key _ (by omega) (by omega)]
  simp only
  rw [textS_textL 1000 r.val _ (by omega) (by omega)]
theorem recsS_take (l : List Rec) (more : List UInt8) (h : ∀ r ∈ l, I64 r.time ∧ r.key.length ≤ 1000 ∧ r.val.length ≤ 1000) : ∀ n, n ≤ l.length → recsS n ⟨recsL l ++ more, false⟩ = (l.take n, ⟨recsL (l.drop n) ++ more, false⟩)
  | 0, _ => by simp [recsS]
  | n + 1, hn => by
    have ih := recsS_take l more h n (by omega)
    have hr := h l[n] (List.getElem_mem _)
    have e : recsL (l.drop n) ++ more = recL l[n] ++ (recsL (l.drop (n + 1)) ++ more) := by
      rw [List.drop_eq_getElem_cons (show n < l.length by omega)]
      simp [recsL]
    simp only [recsS, ih, e, recS_recL l[n] _ hr.1 hr.2.1 hr.2.2]
    rw [List.take_succ_eq_append_getElem (show n < l.length by omega)]
theorem recsS_recsL (l : List Rec) (more : List UInt8) (h : ∀ r ∈ l, I64 r.time ∧ r.key.length ≤ 1000 ∧ r.val.length ≤ 1000) : recsS l.length ⟨recsL l ++ more, false⟩ = (l, ⟨more, false⟩) := by
  have := recsS_take l more h l.length (Nat.le_refl _)
  simpa [recsL] using this
theorem numsS_take (l : List Int) (more : List UInt8) (h : ∀ n ∈ l, I64 n) : ∀ n, n ≤ l.length → numsS n ⟨intsL l ++ more, false⟩ = (l.take n, ⟨intsL (l.drop n) ++ more, false⟩)
  | 0, _ => by simp [numsS]
  | n + 1, hn => by
    have ih := numsS_take l more h n (by omega)
    have hr := h l[n] (List.getElem_mem _)
    have e : intsL (l.drop n) ++ more = intL l[n] ++ (intsL (l.drop (n + 1)) ++ more) := by
      rw [List.drop_eq_getElem_cons (show n < l.length by omega)]
      simp [intsL]
    simp only [numsS, ih, e, numS_intL l[n] _ hr]
    rw [List.take_succ_eq_append_getElem (show n < l.length by omega)]
theorem numsS_intsL (l : List Int) (more : List UInt8) (h : ∀ n ∈ l, I64 n) : numsS l.length ⟨intsL l ++ more, false⟩ = (l, ⟨more, false⟩) := by
  have := numsS_take l more h l.length (Nat.le_refl _)
  simpa [intsL] using this

theorem inB_iff (n : Int) : inB n = true ↔ 0 ≤ n ∧ n ≤ 1000000000 := by simp [inB]
theorem i64_of_in {n : Int} (h : inB n = true) : I64 n := by rw [inB_iff] at h; unfold I64; omega

theorem bodyS_bodyL (b : Bat) (hb : I64 b.base) (h : rightL b = 0) : bodyS (bodyL b) = (b, true) := by
  obtain ⟨h1, h2, h3, h4, h5, h6, h7⟩ := rightL_ok h
  simp only [numsB, Bool.and_eq_true] at h1
  obtain ⟨⟨⟨⟨⟨_, e2⟩, e3⟩, e4⟩, e5⟩, _⟩ := h1
  have hr : ∀ r ∈ b.recs, I64 r.time ∧ r.key.length ≤ 1000 ∧ r.val.length ≤ 1000 := by
    intro r hr
    simp only [timesB, List.all_eq_true] at h2
    simp only [longB, List.any_eq_false, Bool.or_eq_true, decide_eq_true_eq] at h5
    have a := h2 r hr
    have c := h5 r hr
    exact ⟨i64_of_in a, by omega, by omega⟩
  have e : bodyL b = intL b.base ++ (intL b.epoch ++ (intL b.pid ++ (intL b.pidEpoch ++ (intL b.seq ++ (intL b.recs.length ++ (recsL b.recs ++ [])))))) := by simp [bodyL, numsOf, intsL]
  unfold bodyS
  rw [e]
  simp only [numS_intL _ _ hb, numS_intL _ _ (i64_of_in e2), numS_intL _ _ (i64_of_in e3), numS_intL _ _ (i64_of_in e4), numS_intL _ _ (i64_of_in e5),
    countS_intL 64 _ _ (show I64 (b.recs.length : Int) from ⟨by omega, by omega⟩) (by omega) (by omega), Int.toNat_natCast, recsS_recsL b.recs [] hr]
  rfl

theorem readBatchL_batchL (b : Bat) (more : List UInt8) (hb : I64 b.base) (h : rightL b = 0) : readBatchL ((batchL b).1 ++ more) = (b, (batchL b).1.length, 0) := by
  obtain ⟨_, _, _, _, _, _, h7⟩ := rightL_ok h
  have e1 : (batchL b).1 = fourL (bodyL b).length ++ (fourL (crcL (bodyL b)) ++ bodyL b) := by unfold batchL; rw [if_pos h]; simp
  have hc := crcL_lt (bodyL b)
  have f1 : fourN (fourL (bodyL b).length ++ (fourL (crcL (bodyL b)) ++ (bodyL b ++ more))) = (bodyL b).length := fourN_fourL _ _ (by omega)
  have f2 : (fourL (bodyL b).length ++ (fourL (crcL (bodyL b)) ++ (bodyL b ++ more))).drop 4 = fourL (crcL (bodyL b)) ++ (bodyL b ++ more) := rfl
  have f3 : (fourL (bodyL b).length ++ (fourL (crcL (bodyL b)) ++ (bodyL b ++ more))).drop 8 = bodyL b ++ more := rfl
  have f4 : fourN (fourL (crcL (bodyL b)) ++ (bodyL b ++ more)) = crcL (bodyL b) := fourN_fourL _ _ hc
  have f5 : (bodyL b ++ more).take (bodyL b).length = bodyL b := List.take_left
  have f6 : (fourL (bodyL b).length ++ (fourL (crcL (bodyL b)) ++ (bodyL b ++ more))).length = 8 + (bodyL b).length + more.length := by simp [fourL]; omega
  have f7 : (fourL (bodyL b).length ++ (fourL (crcL (bodyL b)) ++ bodyL b)).length = 8 + (bodyL b).length := by simp [fourL]; omega
  rw [e1, List.append_assoc, List.append_assoc]
  unfold readBatchL
  rw [f1, f2, f3, f4, f5, f6, f7, bodyS_bodyL b hb h, if_neg (by omega), if_neg (by omega), if_neg (by omega), if_neg (by simp), if_neg (by simp [h])]

theorem metS_metaL (m : Met) (h : I64 m.kind ∧ I64 m.a ∧ I64 m.b ∧ I64 m.c ∧ I64 m.d) (hl : ∀ n ∈ m.list, I64 n) (hn : m.name.length ≤ 32) (ht : m.text.length ≤ 1000) (hm : m.list.length ≤ 64) : metS (metaL m) = (m, true) := by
  have e : metaL m = intL m.kind ++ (intL m.a ++ (intL m.b ++ (intL m.c ++ (intL m.d ++ (textL m.name ++ (textL m.text ++ (intL m.list.length ++ (intsL m.list ++ [])))))))) := by simp [metaL, intsL]
  unfold metS
  rw [e]
  simp only [numS_intL _ _ h.1, numS_intL _ _ h.2.1, numS_intL _ _ h.2.2.1, numS_intL _ _ h.2.2.2.1, numS_intL _ _ h.2.2.2.2, textS_textL 32 m.name _ (by omega) (by omega), textS_textL 1000 m.text _ (by omega) (by omega),
    countS_intL 64 _ _ (show I64 (m.list.length : Int) from ⟨by omega, by omega⟩) (by omega) (by omega), Int.toNat_natCast, numsS_intsL m.list [] hl]
  rfl

theorem metB_ok {m : Met} (h : metB m = 0) : m.name.length ≤ 32 ∧ m.text.length ≤ 1000 ∧ m.list.length ≤ 64 ∧ (metaL m).length ≤ 2044 := by
  unfold metB at h
  by_cases h1 : 32 < m.name.length ∨ 1000 < m.text.length
  · rw [if_pos h1] at h; cases h
  rw [if_neg h1] at h
  by_cases h2 : 64 < m.list.length
  · rw [if_pos h2] at h; cases h
  rw [if_neg h2] at h
  by_cases h3 : 2048 < (metaL m).length + 4
  · rw [if_pos h3] at h; cases h
  omega

theorem readMetaL_metaW (m : Met) (hi : I64 m.kind ∧ I64 m.a ∧ I64 m.b ∧ I64 m.c ∧ I64 m.d) (hl : ∀ n ∈ m.list, I64 n) (h : metB m = 0) : readMetaL (metaW m).1 = (m, 0) := by
  obtain ⟨h1, h2, h3, h4⟩ := metB_ok h
  have e1 : (metaW m).1 = fourL (crcL (metaL m)) ++ metaL m := by unfold metaW; rw [if_pos h]
  have f1 : fourN (fourL (crcL (metaL m)) ++ metaL m) = crcL (metaL m) := fourN_fourL _ _ (crcL_lt _)
  have f2 : (fourL (crcL (metaL m)) ++ metaL m).drop 4 = metaL m := rfl
  have f3 : (fourL (crcL (metaL m)) ++ metaL m).length = 4 + (metaL m).length := by simp [fourL]; omega
  rw [e1]
  unfold readMetaL
  rw [f1, f2, f3, metS_metaL m hi hl h1 h2 h3, if_neg (by omega), if_neg (by omega), if_neg (by simp), if_neg (by simp)]
end Go.Proofs.YtcffomhcmilcpaaGreat.W

