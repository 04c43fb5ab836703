/- A copy of a state,the document's. -/
import Derived.Test.YtcffomhcmilcpaaGreatC25
set_option maxRecDepth 100000
set_option maxHeartbeats 20000000
set_option linter.unusedVariables false
set_option linter.unusedSimpArgs false
namespace Go.Proofs.YtcffomhcmilcpaaGreat
open Go.RowKit Go.Maps
theorem rclone_any {w:World} {v:Value} {p:Pt} (h:PartM w v p):Calls Tryz.prog 125 #[v] w fun e w'=>∃ v',e=.returned v'∧PartM w' v' p∧InP (fun b=>w.heap.size≤b) v' p∧Below w.heap.size w w':=by
 obtain ⟨id,ld,ep,vr,isr,reps,add,rem,mn⟩:=p
 obtain ⟨a1,c1,a2,c2,a3,c3,a4,c4,rfl,q1,q2,q3,q4,i0,i1,i2,i3,i4⟩:=h.open
 simp only at q1 q2 q3 q4 i0 i1 i2 i3 i4 ⊢
 have Q1:=hid q1
 have Q2:=hid q2
 have Q3:=hid q3
 have Q4:=hid q4
 clear h q1 q2 q3 q4
 have HI:Hid (I64 id∧I64 ld∧I64 ep∧I64 vr∧I64 mn):=⟨i0,i1,i2,i3,i4⟩
 have HT0:=hid (two_new w (PL id ld ep vr a1 isr c1 a2 reps c2 a3 add c3 a4 rem c4 mn) PZ)
 have G1:Hid (∀ W cs zs,TwoB w W cs zs→Calls Tryz.prog 132 #[.slice a1 isr.length c1] W fun e w'=>∃ a c,e=.returned (.slice a isr.length c)∧IA w w' (.slice a isr.length c) isr∧TwoB w w' cs zs∧Below W.heap.size W w'∧In (fun b=>w.heap.size≤b) (.slice a isr.length c) isr):=fun W cs zs hb=>(rcopied_any (Q1.out.under hb.b)).mono fun e w' ⟨v',e1,e2,e4,e3⟩=>by obtain ⟨x,y,rfl,_⟩:=e2.shape;exact ⟨x,y,e1,ia_new e2 e4 hb.s,hb.next e3,e3,e4.mono fun b hx=>Nat.le_trans hb.b.size hx⟩
 have G2:Hid (∀ W cs zs,TwoB w W cs zs→Calls Tryz.prog 132 #[.slice a2 reps.length c2] W fun e w'=>∃ a c,e=.returned (.slice a reps.length c)∧IA w w' (.slice a reps.length c) reps∧TwoB w w' cs zs∧Below W.heap.size W w'∧In (fun b=>w.heap.size≤b) (.slice a reps.length c) reps):=fun W cs zs hb=>(rcopied_any (Q2.out.under hb.b)).mono fun e w' ⟨v',e1,e2,e4,e3⟩=>by obtain ⟨x,y,rfl,_⟩:=e2.shape;exact ⟨x,y,e1,ia_new e2 e4 hb.s,hb.next e3,e3,e4.mono fun b hx=>Nat.le_trans hb.b.size hx⟩
 have G3:Hid (∀ W cs zs,TwoB w W cs zs→Calls Tryz.prog 132 #[.slice a3 add.length c3] W fun e w'=>∃ a c,e=.returned (.slice a add.length c)∧IA w w' (.slice a add.length c) add∧TwoB w w' cs zs∧Below W.heap.size W w'∧In (fun b=>w.heap.size≤b) (.slice a add.length c) add):=fun W cs zs hb=>(rcopied_any (Q3.out.under hb.b)).mono fun e w' ⟨v',e1,e2,e4,e3⟩=>by obtain ⟨x,y,rfl,_⟩:=e2.shape;exact ⟨x,y,e1,ia_new e2 e4 hb.s,hb.next e3,e3,e4.mono fun b hx=>Nat.le_trans hb.b.size hx⟩
 have G4:Hid (∀ W cs zs,TwoB w W cs zs→Calls Tryz.prog 132 #[.slice a4 rem.length c4] W fun e w'=>∃ a c,e=.returned (.slice a rem.length c)∧IA w w' (.slice a rem.length c) rem∧TwoB w w' cs zs∧Below W.heap.size W w'∧In (fun b=>w.heap.size≤b) (.slice a rem.length c) rem):=fun W cs zs hb=>(rcopied_any (Q4.out.under hb.b)).mono fun e w' ⟨v',e1,e2,e4,e3⟩=>by obtain ⟨x,y,rfl,_⟩:=e2.shape;exact ⟨x,y,e1,ia_new e2 e4 hb.s,hb.next e3,e3,e4.mono fun b hx=>Nat.le_trans hb.b.size hx⟩
 clear i0 i1 i2 i3 i4 Q1 Q2 Q3 Q4
 go_enter Tryz.func125,Tryz.ntmps125
 go_wp2_with fail
 generalize (w.alloc (.cells (PL id ld ep vr a1 isr c1 a2 reps c2 a3 add c3 a4 rem c4 mn) 54)).alloc (.cells PZ 54)=W0 at *
 refine (G1.out _ _ _ HT0.out).mono ?_
 rintro e V1 ⟨x1,y1,rfl,il,t1,b1,n1⟩
 have HV1:=hid t1
 have HL1:=hid il
 have HN1:=hid n1
 clear il t1 b1 n1
 obtain ⟨k0,k1,k2,k3,k4,k5,k6,k7,k8⟩:=cells9 HV1.out.x
 have fx:=frz_blk HV1.out.x
 go_upto_region 2 with fail
 have HT1:Hid (TwoB w (V1.setCell ⟨w.heap.size,4,none⟩ (.slice x1 isr.length y1)) (PL id ld ep vr x1 isr y1 a2 reps c2 a3 add c3 a4 rem c4 mn) PZ):=HV1.out.setx 4 _
 have HLa1:=hid (HL1.out.set (.inl rfl) 4 (.slice x1 isr.length y1))
 clear HL1
 have HL1:=hid HLa1.out
 clear HLa1
 clear k0 k1 k2 k3 k4 k5 k6 k7 k8 fx HV1
 generalize V1.setCell ⟨w.heap.size,4,none⟩ (.slice x1 isr.length y1)=W1 at *
 have k:=cell_blk HT1.out.x 5 _ rfl
 go_wp2_with fail
 clear k
 refine (G2.out _ _ _ HT1.out).mono ?_
 rintro e V2 ⟨x2,y2,rfl,il,t1,b1,n1⟩
 have HV2:=hid t1
 have HLa1:=hid (HL1.out.under b1)
 clear HL1
 have HL1:=hid HLa1.out
 clear HLa1
 have HL2:=hid il
 have HN2:=hid n1
 clear il t1 b1 n1
 obtain ⟨k0,k1,k2,k3,k4,k5,k6,k7,k8⟩:=cells9 HV2.out.x
 have fx:=frz_blk HV2.out.x
 go_upto_region 3 with fail
 have HT2:Hid (TwoB w (V2.setCell ⟨w.heap.size,5,none⟩ (.slice x2 reps.length y2)) (PL id ld ep vr x1 isr y1 x2 reps y2 a3 add c3 a4 rem c4 mn) PZ):=HV2.out.setx 5 _
 have HLa1:=hid (HL1.out.set (.inl rfl) 5 (.slice x2 reps.length y2))
 clear HL1
 have HL1:=hid HLa1.out
 clear HLa1
 have HLa2:=hid (HL2.out.set (.inl rfl) 5 (.slice x2 reps.length y2))
 clear HL2
 have HL2:=hid HLa2.out
 clear HLa2
 clear k0 k1 k2 k3 k4 k5 k6 k7 k8 fx HV2
 generalize V2.setCell ⟨w.heap.size,5,none⟩ (.slice x2 reps.length y2)=W2 at *
 have k:=cell_blk HT2.out.x 6 _ rfl
 go_wp2_with fail
 clear k
 refine (G3.out _ _ _ HT2.out).mono ?_
 rintro e V3 ⟨x3,y3,rfl,il,t1,b1,n1⟩
 have HV3:=hid t1
 have HLa1:=hid (HL1.out.under b1)
 clear HL1
 have HL1:=hid HLa1.out
 clear HLa1
 have HLa2:=hid (HL2.out.under b1)
 clear HL2
 have HL2:=hid HLa2.out
 clear HLa2
 have HL3:=hid il
 have HN3:=hid n1
 clear il t1 b1 n1
 obtain ⟨k0,k1,k2,k3,k4,k5,k6,k7,k8⟩:=cells9 HV3.out.x
 have fx:=frz_blk HV3.out.x
 go_upto_region 4 with fail
 have HT3:Hid (TwoB w (V3.setCell ⟨w.heap.size,6,none⟩ (.slice x3 add.length y3)) (PL id ld ep vr x1 isr y1 x2 reps y2 x3 add y3 a4 rem c4 mn) PZ):=HV3.out.setx 6 _
 have HLa1:=hid (HL1.out.set (.inl rfl) 6 (.slice x3 add.length y3))
 clear HL1
 have HL1:=hid HLa1.out
 clear HLa1
 have HLa2:=hid (HL2.out.set (.inl rfl) 6 (.slice x3 add.length y3))
 clear HL2
 have HL2:=hid HLa2.out
 clear HLa2
 have HLa3:=hid (HL3.out.set (.inl rfl) 6 (.slice x3 add.length y3))
 clear HL3
 have HL3:=hid HLa3.out
 clear HLa3
 clear k0 k1 k2 k3 k4 k5 k6 k7 k8 fx HV3
 generalize V3.setCell ⟨w.heap.size,6,none⟩ (.slice x3 add.length y3)=W3 at *
 have k:=cell_blk HT3.out.x 7 _ rfl
 go_wp2_with fail
 clear k
 refine (G4.out _ _ _ HT3.out).mono ?_
 rintro e V4 ⟨x4,y4,rfl,il,t1,b1,n1⟩
 have HV4:=hid t1
 have HLa1:=hid (HL1.out.under b1)
 clear HL1
 have HL1:=hid HLa1.out
 clear HLa1
 have HLa2:=hid (HL2.out.under b1)
 clear HL2
 have HL2:=hid HLa2.out
 clear HLa2
 have HLa3:=hid (HL3.out.under b1)
 clear HL3
 have HL3:=hid HLa3.out
 clear HLa3
 have HL4:=hid il
 have HN4:=hid n1
 clear il t1 b1 n1
 obtain ⟨k0,k1,k2,k3,k4,k5,k6,k7,k8⟩:=cells9 HV4.out.x
 have fx:=frz_blk HV4.out.x
 go_upto_region 5 with fail
 have HT4:Hid (TwoB w (V4.setCell ⟨w.heap.size,7,none⟩ (.slice x4 rem.length y4)) (PL id ld ep vr x1 isr y1 x2 reps y2 x3 add y3 x4 rem y4 mn) PZ):=HV4.out.setx 7 _
 have HLa1:=hid (HL1.out.set (.inl rfl) 7 (.slice x4 rem.length y4))
 clear HL1
 have HL1:=hid HLa1.out
 clear HLa1
 have HLa2:=hid (HL2.out.set (.inl rfl) 7 (.slice x4 rem.length y4))
 clear HL2
 have HL2:=hid HLa2.out
 clear HLa2
 have HLa3:=hid (HL3.out.set (.inl rfl) 7 (.slice x4 rem.length y4))
 clear HL3
 have HL3:=hid HLa3.out
 clear HLa3
 have HLa4:=hid (HL4.out.set (.inl rfl) 7 (.slice x4 rem.length y4))
 clear HL4
 have HL4:=hid HLa4.out
 clear HLa4
 clear k0 k1 k2 k3 k4 k5 k6 k7 k8 fx HV4
 generalize V4.setCell ⟨w.heap.size,7,none⟩ (.slice x4 rem.length y4)=W4 at *
 obtain ⟨k0,k1,k2,k3,k4,k5,k6,k7,k8⟩:=cells9 HT4.out.x
 obtain ⟨z0,z1,z2,z3,z4,z5,z6,z7,z8⟩:=cells9 HT4.out.z
 have fx:=frz_blk HT4.out.x
 have fz:=frz_blk HT4.out.z
 go_wp2_with fail
 clear k0 k1 k2 k3 k4 k5 k6 k7 k8 z0 z1 z2 z3 z4 z5 z6 z7 z8 fx fz
 refine nineW (F:=bodyPost _ _ _ _ _) HT4.out rfl fun W9 HT9 hsz9 HOFF=>?_
 obtain ⟨r0,r1,r2,r3,r4,r5,r6,r7,r8⟩:=cells9 HT9.out.z
 exact bodyPost_ret (v:=.agg (PL id ld ep vr x1 isr y1 x2 reps y2 x3 add y3 x4 rem y4 mn)) (by simp [results,Tryz.results125,go_sem,r0,r1,r2,r3,r4,r5,r6,r7,r8]) rfl ⟨_,rfl,⟨_,_,_,_,rfl,HL1.out.offz HOFF.out hsz9,HL2.out.offz HOFF.out hsz9,HL3.out.offz HOFF.out hsz9,HL4.out.offz HOFF.out hsz9,HI.out⟩,inP_of HN1.out HN2.out HN3.out HN4.out,HT9.out.b⟩
theorem left_iff {p:Pt} (h1:p.reps.Nodup) (h2:p.rem.Nodup) (h3:∀ x∈p.rem,x∈p.reps):outL p.reps p.rem≠[] ↔ p.rem.length<p.reps.length:=by
 constructor
 ·intro hn
  cases hL:outL p.reps p.rem with
  | nil=>exact absurd hL hn
  | cons x r =>
   have hx:x∈outL p.reps p.rem:=by rw [hL];simp
   rw [mem_outL] at hx
   have:=len_sub (x :: p.rem) p.reps (List.nodup_cons.2 ⟨hx.2,h2⟩) (fun y hy=>by
    rcases List.mem_cons.1 hy with rfl | hy
    ·exact hx.1
    ·exact h3 y hy)
   simp at this
   omega
 ·intro hl he
  have:=len_sub p.reps p.rem h1 fun x hx=>Decidable.byContradiction fun hn=>by
   have:x∈outL p.reps p.rem:=mem_outL.2 ⟨hx,hn⟩
   rw [he] at this;cases this
  omega
theorem in_len (l m:List Int):(inL l m).length=0 ↔ ∀ x∈l,x ∉ m:=by
 constructor
 ·intro h x hx hn
  have he:=List.eq_nil_of_length_eq_zero h
  have:x∈inL l m:=mem_inL.2 ⟨hx,hn⟩
  rw [he] at this;cases this
 ·intro h
  cases hL:inL l m with
  | nil=>rfl
  | cons x r =>
   have hx:x∈inL l m:=by rw [hL];simp
   exact absurd (mem_inL.1 hx).2 (h x (mem_inL.1 hx).1)
theorem right_doc (p:Pt):rightB p=true ↔ ((1≤p.id∧p.id≤16)∧(1≤p.min∧p.min≤5)∧(1≤p.epoch∧p.epoch≤1000000000)∧(1≤p.ver∧p.ver≤1000000000)∧p.isr≠[])∧(idsB p.reps=true∧idsB p.isr=true∧idsB p.add=true∧idsB p.rem=true)∧p.isr.all (hasB p.reps)=true∧p.add.all (hasB p.reps)=true∧p.rem.all (hasB p.reps)=true∧(inL p.rem p.add).length=0∧p.rem.length<p.reps.length∧(p.leader=0∨hasB p.isr p.leader=true):=by
 rw [rightB_iff]
 simp only [idsB_iff,List.all_eq_true,hasB_iff,in_len]
 constructor
 ·rintro ⟨a,b,c,d,e,f,g,h,i,j,k,l,m,n,q⟩
  exact ⟨⟨a,b,c,d,i⟩,⟨f,e,g,h⟩,j,k,l,m,(left_iff f.1 h.1 l).1 n,q⟩
 ·rintro ⟨⟨a,b,c,d,i⟩,⟨f,e,g,h⟩,j,k,l,m,n,q⟩
  exact ⟨a,b,c,d,e,f,g,h,i,j,k,l,m,(left_iff f.1 h.1 l).2 n,q⟩
theorem rright_any {w:World} {v:Value} {p:Pt} (h:PartM w v p):Calls Tryz.prog 106 #[v] w fun e w'=>e=.returned (.bool (rightB p))∧Below w.heap.size w w':=by
 obtain ⟨id,ld,ep,vr,isr,reps,add,rem,mn⟩:=p
 obtain ⟨a1,c1,a2,c2,a3,c3,a4,c4,rfl,q1,q2,q3,q4,i0,i1,i2,i3,i4⟩:=h.open
 simp only at q1 q2 q3 q4 i0 i1 i2 i3 i4 ⊢
 have Q1:=hid q1
 have Q2:=hid q2
 have Q3:=hid q3
 have Q4:=hid q4
 clear h q1 q2 q3 q4
 have HX:Hid ((w.alloc (.cells (PL id ld ep vr a1 isr c1 a2 reps c2 a3 add c3 a4 rem c4 mn) 54)).heap[w.heap.size]?=some (.cells (PL id ld ep vr a1 isr c1 a2 reps c2 a3 add c3 a4 rem c4 mn) 54)):=heap_alloc_new w _
 have HB:Hid (Below w.heap.size w (w.alloc (.cells (PL id ld ep vr a1 isr c1 a2 reps c2 a3 add c3 a4 rem c4 mn) 54))):=(Below.refl _ _).alloc (Nat.le_refl _) _
 have hsz:(w.alloc (.cells (PL id ld ep vr a1 isr c1 a2 reps c2 a3 add c3 a4 rem c4 mn) 54)).heap.size=w.heap.size+1:=by simp
 have HD:=hid (right_doc ⟨id,ld,ep,vr,isr,reps,add,rem,mn⟩)
 simp only at HD
 have f1:=Q1.out.few
 have f2:=Q2.out.few
 have f4:=Q4.out.few
 have G1:Hid (∀ W,Below w.heap.size w W→Calls Tryz.prog 128 #[.slice a2 reps.length c2] W fun e w'=>e=.returned (.bool (idsB reps))∧Below W.heap.size W w'):=fun W hb=>rids_any (Q2.out.under hb)
 have G2:Hid (∀ W,Below w.heap.size w W→Calls Tryz.prog 128 #[.slice a1 isr.length c1] W fun e w'=>e=.returned (.bool (idsB isr))∧Below W.heap.size W w'):=fun W hb=>rids_any (Q1.out.under hb)
 have G3:Hid (∀ W,Below w.heap.size w W→Calls Tryz.prog 128 #[.slice a3 add.length c3] W fun e w'=>e=.returned (.bool (idsB add))∧Below W.heap.size W w'):=fun W hb=>rids_any (Q3.out.under hb)
 have G4:Hid (∀ W,Below w.heap.size w W→Calls Tryz.prog 128 #[.slice a4 rem.length c4] W fun e w'=>e=.returned (.bool (idsB rem))∧Below W.heap.size W w'):=fun W hb=>rids_any (Q4.out.under hb)
 have G5:Hid (∀ W,Below w.heap.size w W→Calls Tryz.prog 129 #[.slice a1 isr.length c1,.slice a2 reps.length c2] W fun e w'=>e=.returned (.bool (isr.all (hasB reps)))∧Below W.heap.size W w'):=fun W hb=>rpart_any (Q1.out.under hb) (Q2.out.under hb)
 have G6:Hid (∀ W,Below w.heap.size w W→Calls Tryz.prog 129 #[.slice a3 add.length c3,.slice a2 reps.length c2] W fun e w'=>e=.returned (.bool (add.all (hasB reps)))∧Below W.heap.size W w'):=fun W hb=>rpart_any (Q3.out.under hb) (Q2.out.under hb)
 have G7:Hid (∀ W,Below w.heap.size w W→Calls Tryz.prog 129 #[.slice a4 rem.length c4,.slice a2 reps.length c2] W fun e w'=>e=.returned (.bool (rem.all (hasB reps)))∧Below W.heap.size W w'):=fun W hb=>rpart_any (Q4.out.under hb) (Q2.out.under hb)
 have G8:Hid (∀ W,Below w.heap.size w W→Calls Tryz.prog 83 #[.slice a1 isr.length c1,.int .i64 ld] W fun e w'=>e=.returned (.bool (hasB isr ld))∧W=w'):=fun W hb=>rhas_any (Q1.out.under hb) ld i1
 have G9:Hid (∀ W,Below w.heap.size w W→Calls Tryz.prog 131 #[.slice a4 rem.length c4,.slice a3 add.length c3] W fun e w'=>∃ va vc,e=.returned (.slice va (inL rem add).length vc)∧Below W.heap.size W w'):=fun W hb=>(rinL_any (Q4.out.under hb) (Q3.out.under hb)).mono fun e w' ⟨v',e1,e2,e3,e4⟩=>by obtain ⟨va,vc,rfl,_⟩:=e2.shape;exact ⟨va,vc,e1,e4⟩
 have HIR:Hid (isr.length=0→isr=[]):=fun e=>List.eq_nil_of_length_eq_zero e
 have HRR:Hid (idsB reps=true→True):=fun _=>trivial
 have HRN:Hid (isr.all (hasB reps)=true→isr≠[]→1≤reps.length):=fun e hn=>by
  cases hi:isr with
  | nil=>exact absurd hi hn
  | cons x r =>
   have:x∈reps:=hasB_iff.1 (List.all_eq_true.1 e x (by rw [hi];simp))
   exact List.length_pos_of_mem this
 generalize hRB:rightB ⟨id,ld,ep,vr,isr,reps,add,rem,mn⟩=RB at *
 have HRB:=hid hRB
 generalize idsB reps=B1 at *
 generalize idsB isr=B2 at *
 generalize idsB add=B3 at *
 generalize idsB rem=B4 at *
 generalize isr.all (hasB reps)=B5 at *
 generalize add.all (hasB reps)=B6 at *
 generalize rem.all (hasB reps)=B7 at *
 generalize hasB isr ld=B8 at *
 generalize (inL rem add).length=n9 at *
 clear hRB i0 i1 i2 i3 i4 Q1 Q2 Q3 Q4 HRR
 by_cases hb0:id<1
 ·have HF:Hid (RB=false):=by
   show _=_
   rw [Bool.eq_false_iff]
   intro e
   have:=HD.out.1 e
   omega
  go_enter Tryz.func106,Tryz.ntmps106
  go_wp2_with fail
  go_ret
  exact ⟨by rw [HF.out];rfl,HB.out⟩
 by_cases hb1:16<id
 ·have HF:Hid (RB=false):=by
   show _=_
   rw [Bool.eq_false_iff]
   intro e
   have:=HD.out.1 e
   omega
  go_enter Tryz.func106,Tryz.ntmps106
  go_wp2_with fail
  go_ret
  exact ⟨by rw [HF.out];rfl,HB.out⟩
 by_cases hb2:mn<1
 ·have HF:Hid (RB=false):=by
   show _=_
   rw [Bool.eq_false_iff]
   intro e
   have:=HD.out.1 e
   omega
  go_enter Tryz.func106,Tryz.ntmps106
  go_wp2_with fail
  go_ret
  exact ⟨by rw [HF.out];rfl,HB.out⟩
 by_cases hb3:5<mn
 ·have HF:Hid (RB=false):=by
   show _=_
   rw [Bool.eq_false_iff]
   intro e
   have:=HD.out.1 e
   omega
  go_enter Tryz.func106,Tryz.ntmps106
  go_wp2_with fail
  go_ret
  exact ⟨by rw [HF.out];rfl,HB.out⟩
 by_cases hb4:ep<1
 ·have HF:Hid (RB=false):=by
   show _=_
   rw [Bool.eq_false_iff]
   intro e
   have:=HD.out.1 e
   omega
  go_enter Tryz.func106,Tryz.ntmps106
  go_wp2_with fail
  go_ret
  exact ⟨by rw [HF.out];rfl,HB.out⟩
 by_cases hb5:1000000000<ep
 ·have HF:Hid (RB=false):=by
   show _=_
   rw [Bool.eq_false_iff]
   intro e
   have:=HD.out.1 e
   omega
  go_enter Tryz.func106,Tryz.ntmps106
  go_wp2_with fail
  go_ret
  exact ⟨by rw [HF.out];rfl,HB.out⟩
 by_cases hb6:vr<1
 ·have HF:Hid (RB=false):=by
   show _=_
   rw [Bool.eq_false_iff]
   intro e
   have:=HD.out.1 e
   omega
  go_enter Tryz.func106,Tryz.ntmps106
  go_wp2_with fail
  go_ret
  exact ⟨by rw [HF.out];rfl,HB.out⟩
 by_cases hb7:1000000000<vr
 ·have HF:Hid (RB=false):=by
   show _=_
   rw [Bool.eq_false_iff]
   intro e
   have:=HD.out.1 e
   omega
  go_enter Tryz.func106,Tryz.ntmps106
  go_wp2_with fail
  go_ret
  exact ⟨by rw [HF.out];rfl,HB.out⟩
 by_cases hr1:reps.length<1
 ·have hr1':(reps.length:Int)<1:=by omega
  have HF:Hid (RB=false):=by
   show _=_
   rw [Bool.eq_false_iff]
   intro e
   have h9:=HD.out.1 e
   have:=HRN.out h9.2.2.1 h9.1.2.2.2.2
   omega
  go_enter Tryz.func106,Tryz.ntmps106
  go_wp2_with fail
  go_ret
  exact ⟨by rw [HF.out];rfl,HB.out⟩
 have hr1':¬ (reps.length:Int)<1:=by omega
 by_cases hi1:isr.length<1
 ·have hi1':(isr.length:Int)<1:=by omega
  have HF:Hid (RB=false):=by
   show _=_
   rw [Bool.eq_false_iff]
   intro e
   have h9:=HD.out.1 e
   exact h9.1.2.2.2.2 (HIR.out (by omega))
  go_enter Tryz.func106,Tryz.ntmps106
  go_wp2_with fail
  go_ret
  exact ⟨by rw [HF.out];rfl,HB.out⟩
 have hi1':¬ (isr.length:Int)<1:=by omega
 have HIN:Hid (isr≠[]):=fun e=>hi1 (by rw [e];simp)
 have HNUM:Hid ((1≤id∧id≤16)∧(1≤mn∧mn≤5)∧(1≤ep∧ep≤1000000000)∧(1≤vr∧vr≤1000000000)∧isr≠[]):=⟨by omega,by omega,by omega,by omega,HIN.out⟩
 go_enter Tryz.func106,Tryz.ntmps106
 go_wp2_with fail
 generalize w.alloc (.cells (PL id ld ep vr a1 isr c1 a2 reps c2 a3 add c3 a4 rem c4 mn) 54)=W0 at *
 refine (G1.out _ HB.out).mono ?_
 rintro e W1 ⟨rfl,hb⟩
 have HB1:=hid (HB.out.trans (hb.mono HB.out.size))
 have HX1:=hid (blk_under HX.out hb)
 clear hb
 have k4_1:=cell_blk HX1.out 4 _ rfl
 go_wp2_with fail
 refine (G2.out _ HB1.out).mono ?_
 rintro e W2 ⟨rfl,hb⟩
 have HB2:=hid (HB1.out.trans (hb.mono HB1.out.size))
 have HX2:=hid (blk_under HX1.out hb)
 clear hb
 have k6_2:=cell_blk HX2.out 6 _ rfl
 go_wp2_with fail
 refine (G3.out _ HB2.out).mono ?_
 rintro e W3 ⟨rfl,hb⟩
 have HB3:=hid (HB2.out.trans (hb.mono HB2.out.size))
 have HX3:=hid (blk_under HX2.out hb)
 clear hb
 have k7_3:=cell_blk HX3.out 7 _ rfl
 go_wp2_with fail
 refine (G4.out _ HB3.out).mono ?_
 rintro e W4 ⟨rfl,hb⟩
 have HB4:=hid (HB3.out.trans (hb.mono HB3.out.size))
 have HX4:=hid (blk_under HX3.out hb)
 clear hb
 cases B1
 ·have HF:Hid (RB=false):=by
   show _=_
   rw [Bool.eq_false_iff]
   intro e
   have h9:=HD.out.1 e
   simp at h9
  go_wp2_with fail
  go_ret
  exact ⟨by rw [HF.out];rfl,HB4.out⟩
 cases B2
 ·have HF:Hid (RB=false):=by
   show _=_
   rw [Bool.eq_false_iff]
   intro e
   have h9:=HD.out.1 e
   simp at h9
  go_wp2_with fail
  go_ret
  exact ⟨by rw [HF.out];rfl,HB4.out⟩
 cases B3
 ·have HF:Hid (RB=false):=by
   show _=_
   rw [Bool.eq_false_iff]
   intro e
   have h9:=HD.out.1 e
   simp at h9
  go_wp2_with fail
  go_ret
  exact ⟨by rw [HF.out];rfl,HB4.out⟩
 cases B4
 ·have HF:Hid (RB=false):=by
   show _=_
   rw [Bool.eq_false_iff]
   intro e
   have h9:=HD.out.1 e
   simp at h9
  go_wp2_with fail
  go_ret
  exact ⟨by rw [HF.out];rfl,HB4.out⟩
 have k4_4:=cell_blk HX4.out 4 _ rfl
 have k5_4:=cell_blk HX4.out 5 _ rfl
 go_wp2_with fail
 refine (G5.out _ HB4.out).mono ?_
 rintro e W5 ⟨rfl,hb⟩
 have HB5:=hid (HB4.out.trans (hb.mono HB4.out.size))
 have HX5:=hid (blk_under HX4.out hb)
 clear hb
 have k6_5:=cell_blk HX5.out 6 _ rfl
 have k5_5:=cell_blk HX5.out 5 _ rfl
 go_wp2_with fail
 refine (G6.out _ HB5.out).mono ?_
 rintro e W6 ⟨rfl,hb⟩
 have HB6:=hid (HB5.out.trans (hb.mono HB5.out.size))
 have HX6:=hid (blk_under HX5.out hb)
 clear hb
 have k7_6:=cell_blk HX6.out 7 _ rfl
 have k5_6:=cell_blk HX6.out 5 _ rfl
 go_wp2_with fail
 refine (G7.out _ HB6.out).mono ?_
 rintro e W7 ⟨rfl,hb⟩
 have HB7:=hid (HB6.out.trans (hb.mono HB6.out.size))
 have HX7:=hid (blk_under HX6.out hb)
 clear hb
 have k4_7:=cell_blk HX7.out 4 _ rfl
 have k1_7:=cell_blk HX7.out 1 _ rfl
 go_wp2_with fail
 refine (G8.out _ HB7.out).mono ?_
 rintro e W8 ⟨rfl,rfl⟩
 have m1:=cell_blk HX7.out 1 _ rfl
 have m5:=cell_blk HX7.out 5 _ rfl
 have m6:=cell_blk HX7.out 6 _ rfl
 have m7:=cell_blk HX7.out 7 _ rfl
 cases B5
 ·have HF:Hid (RB=false):=by
   show _=_
   rw [Bool.eq_false_iff]
   intro e
   have h9:=HD.out.1 e
   simp at h9
  go_wp2_with fail
  go_ret
  exact ⟨by rw [HF.out];rfl,HB7.out⟩
 cases B6
 ·have HF:Hid (RB=false):=by
   show _=_
   rw [Bool.eq_false_iff]
   intro e
   have h9:=HD.out.1 e
   simp at h9
  go_wp2_with fail
  go_ret
  exact ⟨by rw [HF.out];rfl,HB7.out⟩
 cases B7
 ·have HF:Hid (RB=false):=by
   show _=_
   rw [Bool.eq_false_iff]
   intro e
   have h9:=HD.out.1 e
   simp at h9
  go_wp2_with fail
  go_ret
  exact ⟨by rw [HF.out];rfl,HB7.out⟩
 go_wp2_with fail
 refine (G9.out _ HB7.out).mono ?_
 rintro e W9 ⟨va,vc,rfl,hb⟩
 have HB9:=hid (HB7.out.trans (hb.mono HB7.out.size))
 have HX9:=hid (blk_under HX7.out hb)
 clear hb m1 m5 m6 m7
 have m1:=cell_blk HX9.out 1 _ rfl
 have m5:=cell_blk HX9.out 5 _ rfl
 have m7:=cell_blk HX9.out 7 _ rfl
 by_cases h0:n9=0
 case neg =>
  have h0b:((n9:Int) == 0)=false:=by simp;omega
  have HF:Hid (RB=false):=by
   show _=_
   rw [Bool.eq_false_iff]
   intro e
   have h9:=HD.out.1 e
   exact h0 h9.2.2.2.2.2.1
  go_wp2_with fail
  go_ret
  exact ⟨by rw [HF.out];rfl,HB9.out⟩
 subst h0
 by_cases hl:rem.length<reps.length
 case neg =>
  have hl':¬ (rem.length:Int)<(reps.length:Int):=by omega
  have HF:Hid (RB=false):=by
   show _=_
   rw [Bool.eq_false_iff]
   intro e
   have h9:=HD.out.1 e
   exact hl h9.2.2.2.2.2.2.1
  go_wp2_with fail
  go_ret
  exact ⟨by rw [HF.out];rfl,HB9.out⟩
 have hl':(rem.length:Int)<(reps.length:Int):=by omega
 by_cases hz:ld=0
 ·have hzb:(ld == 0)=true:=by simp [hz]
  have HT:Hid (RB=true):=HD.out.2 ⟨HNUM.out,by simp [hl,hz]⟩
  clear hz
  go_wp2_with fail
  go_ret
  exact ⟨by rw [HT.out];rfl,HB9.out⟩
 have hzb:(ld == 0)=false:=by simp [hz]
 cases B8
 ·have HF:Hid (RB=false):=by
   show _=_
   rw [Bool.eq_false_iff]
   intro e
   have h9:=(HD.out.1 e).2.2.2.2.2.2.2
   simp [hz] at h9
  go_wp2_with fail
  go_ret
  exact ⟨by rw [HF.out];rfl,HB9.out⟩
 ·have HT:Hid (RB=true):=HD.out.2 ⟨HNUM.out,by simp [hl]⟩
  go_wp2_with fail
  go_ret
  exact ⟨by rw [HT.out];rfl,HB9.out⟩
def docL (l a b:List Int) (but:Int):List Int:=outL (inL (inL l a) b) [but]
theorem doc_append (l m a b:List Int) (but:Int):docL (l++m) a b but=docL l a b but++docL m a b but:=by simp [docL,outL,inL,List.filter_append]
theorem doc_hit (a b:List Int) (but y:Int) (r:List Int) (h1:y∈a) (h2:y∈b) (h3:y≠but):docL (y :: r) a b but=y :: docL r a b but:=by
 unfold docL outL inL
 rw [List.filter_cons_of_pos (hasB_iff.2 h1),List.filter_cons_of_pos (hasB_iff.2 h2),List.filter_cons_of_pos (by simp [lackB,hasB,h3])]
theorem doc_miss (a b:List Int) (but y:Int) (h:¬ (y∈a∧y∈b∧y≠but)):docL [y] a b but=[]:=by
 cases hd:docL [y] a b but with
 | nil=>rfl
 | cons x r =>
  exfalso
  have hx:x∈docL [y] a b but:=by rw [hd];simp
  unfold docL at hx
  rw [mem_outL,mem_inL,mem_inL] at hx
  obtain ⟨⟨⟨e1,e2⟩,e3⟩,e4⟩:=hx
  simp at e1 e4
  subst e1
  exact h ⟨e2,e3,e4⟩
theorem rfirst_any {w:World} {v va vb:Value} {l a b:List Int} (h:IL w v l) (ha:IL w va a) (hb:IL w vb b) (but:Int) (hbut:I64 but):Calls Tryz.prog 133 #[v,va,vb,.int .i64 but] w fun e w'=>e=.returned (.int .i64 (headL (docL l a b but)))∧I64 (headL (docL l a b but))∧w=w':=by
 have HAA:=hid ha
 have HBB:=hid hb
 obtain ⟨⟨oa,cap,rfl,hcap,hcm,hnn,hat⟩,hok,hfew⟩:=h
 obtain ⟨a1,c1,rfl,_⟩:=ha.shape
 obtain ⟨a2,c2,rfl,_⟩:=hb.shape
 have HA:=hid hat
 have HOK:=hid hok
 clear hat hok hnn hcap hcm ha hb
 go_enter Tryz.func133,Tryz.ntmps133
 go_wp2_with fail
 go_loopg [9] l.length (fun kx s9 wr=>∃ k:Nat,k≤l.length∧l.length - k≤kx∧s9=.int .i64 (k:Int)∧Hid (docL (l.take k) a b but=[])∧wr=w)
 case atStart=>exact ⟨0,Nat.zero_le _,by omega,rfl,rfl,rfl⟩
 case round =>
  obtain ⟨k,hk,hkx,rfl,HR,rfl⟩:=hrel
  by_cases hlt:k<l.length
  ·obtain ⟨b0,off,rfl,_,hc⟩:=HA.out (by intro e;rw [e] at hlt;simp at hlt)
   have hck:=hc k hlt
   have hok:=HOK.out l[k] (by simp)
   have HT:Hid (l.take (k+1)=l.take k++[l[k]]):=List.take_succ_eq_append_getElem hlt
   have HL:Hid (l=l.take k++(l[k] :: l.drop (k+1))):=by
    show _=_
    conv=>lhs;rw [← List.take_append_drop k l,List.drop_eq_getElem_cons hlt]
   have hlt':(k:Int)<(l.length:Int):=by omega
   generalize hy:l[k]=y at *
   clear hc hy
   have G1:=hid (rhas_any HAA.out y hok)
   have G2:=hid (rhas_any HBB.out y hok)
   have HMISS:Hid (¬ (y∈a∧y∈b∧y≠but)→docL (l.take (k+1)) a b but=[]):=fun hn=>by rw [HT.out,doc_append,HR.out,doc_miss a b but y hn];rfl
   have HHIT:Hid (y∈a→y∈b→y≠but→headL (docL l a b but)=y):=fun e1 e2 e3=>by rw [HL.out,doc_append,HR.out,doc_hit a b but y _ e1 e2 e3];rfl
   have HI1:Hid (hasB a y=true ↔ y∈a):=hasB_iff
   have HI2:Hid (hasB b y=true ↔ y∈b):=hasB_iff
   generalize hasB a y=B1 at *
   generalize hasB b y=B2 at *
   go_wp2_with fail
   refine G1.out.mono ?_
   rintro e W1 ⟨rfl,rfl⟩
   go_wp2_with fail
   refine G2.out.mono ?_
   rintro e W1 ⟨rfl,rfl⟩
   cases B1
   ·have HM:=hid (HMISS.out fun hn=>by have:=HI1.out.2 hn.1;cases this)
    clear HMISS HHIT HI1 HI2
    go_wp2_with fail
    go_roundg (l.length - (k+1))
    case measure=>omega
    case rel=>exact ⟨k+1,by omega,Nat.le_refl _,by go_num,HM.out,rfl⟩
   cases B2
   ·have HM:=hid (HMISS.out fun hn=>by have:=HI2.out.2 hn.2.1;cases this)
    clear HMISS HHIT HI1 HI2
    go_wp2_with fail
    go_roundg (l.length - (k+1))
    case measure=>omega
    case rel=>exact ⟨k+1,by omega,Nat.le_refl _,by go_num,HM.out,rfl⟩
   by_cases hyb:y=but
   ·have HM:=hid (HMISS.out fun hn=>hn.2.2 hyb)
    have hybb:(y != but)=false:=by simp [hyb]
    clear HMISS HHIT HI1 HI2 hyb
    go_wp2_with fail
    go_roundg (l.length - (k+1))
    case measure=>omega
    case rel=>exact ⟨k+1,by omega,Nat.le_refl _,by go_num,HM.out,rfl⟩
   ·have hybb:(y != but)=true:=by simp [hyb]
    have HH:=hid (HHIT.out (HI1.out.1 rfl) (HI2.out.1 rfl) hyb)
    clear HMISS HHIT HI1 HI2
    go_wp2_with fail
    go_ret
    exact ⟨by rw [HH.out];rfl,by rw [HH.out];exact hok,rfl⟩
  ·have hlt':¬ (k:Int)<(l.length:Int):=by omega
   go_wp2_with fail
   go_ret
   have hr:=HR.out
   rw [List.take_of_length_le (by omega)] at hr
   exact ⟨by rw [hr];rfl,by rw [hr];exact i64z,rfl⟩
end Go.Proofs.YtcffomhcmilcpaaGreat
