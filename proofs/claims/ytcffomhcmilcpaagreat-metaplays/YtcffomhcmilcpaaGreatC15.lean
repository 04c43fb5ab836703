/- Cancel. -/
import Derived.Test.YtcffomhcmilcpaaGreatC3
import Derived.Deep.RegionHeld3
set_option maxRecDepth 100000
set_option maxHeartbeats 20000000
set_option linter.unusedVariables false
set_option linter.unusedSimpArgs false
namespace Go.Proofs.YtcffomhcmilcpaaGreat
open Go.RowKit Go.Maps
theorem cancel_any {w:World} {v u:Value} {p:Pt} {up:List Int} (h:PartM w v p) (hu:IL w u up) :
  Calls Tryz.prog 185 #[v,u] w fun e w'=>Res (fun b=>w.heap.size≤b) w (cancelP p up) e w':=by
 obtain ⟨id,ld,ep,vr,isr,reps,add,rem,mn⟩:=p
 obtain ⟨a1,c1,a2,c2,a3,c3,a4,c4,rfl,q1,q2,q3,q4,i0,i1,i2,i3,i4⟩:=h.open
 simp only at q1 q2 q3 q4 i0 i1 i2 i3 i4 ⊢
 have Q1:=hid q1
 have Q2:=hid q2
 have Q3:=hid q3
 have Q4:=hid q4
 clear h q1 q2 q3 q4
 obtain ⟨ua,uc,rfl,_⟩:=hu.shape
 have QU:=hid hu
 have HT0:=hid (two_new w (PL id ld ep vr a1 isr c1 a2 reps c2 a3 add c3 a4 rem c4 mn) PZ)
 have G12:Hid (∀ W,Below w.heap.size w W→Calls Tryz.prog 96 #[.agg (PL id ld ep vr a1 isr c1 a2 reps c2 a3 add c3 a4 rem c4 mn)] W fun e w'=>e=.returned (.bool (rightB ⟨id,ld,ep,vr,isr,reps,add,rem,mn⟩))∧Below W.heap.size W w'):=fun W hb=>right_any ⟨_,_,_,_,rfl,Q1.out.under hb,Q2.out.under hb,Q3.out.under hb,Q4.out.under hb,i0,i1,i2,i3,i4⟩
 have HP:Hid (∀ W,Below w.heap.size w W→PartM W (.agg (PL id ld ep vr a1 isr c1 a2 reps c2 a3 add c3 a4 rem c4 mn)) ⟨id,ld,ep,vr,isr,reps,add,rem,mn⟩):=fun W hb=>⟨_,_,_,_,rfl,Q1.out.under hb,Q2.out.under hb,Q3.out.under hb,Q4.out.under hb,i0,i1,i2,i3,i4⟩
 have G48:Hid (∀ W,TwoB w W (PL id ld ep vr a1 isr c1 a2 reps c2 a3 add c3 a4 rem c4 mn) PZ→Calls Tryz.prog 202 #[.agg (PL id ld ep vr a1 isr c1 a2 reps c2 a3 add c3 a4 rem c4 mn)] W fun e w'=>e=.returned (.bool (movingB ⟨id,ld,ep,vr,isr,reps,add,rem,mn⟩))∧TwoB w w' (PL id ld ep vr a1 isr c1 a2 reps c2 a3 add c3 a4 rem c4 mn) PZ):=fun W hT=>(moving_any (HP.out W hT.b)).mono fun e w' ⟨e1,e2⟩=>⟨e1,hT.next e2⟩
 have G51:Hid (∀ W,TwoB w W (PL id ld ep vr a1 isr c1 a2 reps c2 a3 add c3 a4 rem c4 mn) PZ→Calls Tryz.prog 169 #[.slice a1 isr.length c1,.func (.func 138) #[] #[],.slice a3 add.length c3] W fun e w'=>e=.returned (.bool (isr.all (hasB add)))∧TwoB w w' (PL id ld ep vr a1 isr c1 a2 reps c2 a3 add c3 a4 rem c4 mn) PZ):=fun W hT=>(areAll39_any (Q1.out.under hT.b) (Q3.out.under hT.b)).mono fun e w' ⟨e1,e2⟩=>⟨e1,e2 ▸ hT⟩
 have HE:Hid (cancelP ⟨id,ld,ep,vr,isr,reps,add,rem,mn⟩ up=if !rightB ⟨id,ld,ep,vr,isr,reps,add,rem,mn⟩ then (Pt.zero,1) else if !movingB ⟨id,ld,ep,vr,isr,reps,add,rem,mn⟩ || isr.all (hasB add) then (Pt.zero,19) else settledP ⟨id,ld,ep,vr,isr,reps,add,rem,mn⟩ add up):=rfl
 have G54:Hid (rightB ⟨id,ld,ep,vr,isr,reps,add,rem,mn⟩=true→∀ W,TwoB w W (PL id ld ep vr a1 isr c1 a2 reps c2 a3 add c3 a4 rem c4 mn) PZ→Calls Tryz.prog 205 #[.agg (PL id ld ep vr a1 isr c1 a2 reps c2 a3 add c3 a4 rem c4 mn),.slice a3 add.length c3,.slice ua up.length uc] W fun e w'=>Res (fun b=>w.heap.size+2≤b) W (settledP ⟨id,ld,ep,vr,isr,reps,add,rem,mn⟩ add up) e w'):=fun hr W hT=>(settled_any (HP.out W hT.b) (Q3.out.under hT.b) (QU.out.under hT.b) (rightB_iff.1 hr).epoch (rightB_iff.1 hr).ver).mono fun e w' ⟨v',e1,e2,e3,e4⟩=>⟨v',e1,e2,e3.mono fun b hx=>Nat.le_trans hT.s hx,e4⟩
 generalize cancelP ⟨id,ld,ep,vr,isr,reps,add,rem,mn⟩ up=r at *
 generalize hc:settledP ⟨id,ld,ep,vr,isr,reps,add,rem,mn⟩ add up=r2 at *
 obtain ⟨⟨rid,rld,rep,rvr,rl1,rl2,rl3,rl4,rmn⟩,re⟩:=r2
 generalize rightB ⟨id,ld,ep,vr,isr,reps,add,rem,mn⟩=B1 at *
 generalize movingB ⟨id,ld,ep,vr,isr,reps,add,rem,mn⟩=B2 at *
 generalize isr.all (hasB add)=B3 at *
 clear hc i0 i1 i2 i3 i4 HP QU Q1 Q2 Q3 Q4 hu
 go_enter Tryz.func185,Tryz.ntmps185
 go_wp2_with fail
 generalize (w.alloc (.cells (PL id ld ep vr a1 isr c1 a2 reps c2 a3 add c3 a4 rem c4 mn) 54)).alloc (.cells PZ 54)=W0 at *
 refine (G12.out _ HT0.out.b).mono ?_
 rintro e W1 ⟨rfl,hb⟩
 have HT1:=hid (HT0.out.next hb)
 clear hb
 obtain ⟨k0,k1,k2,k3,k4,k5,k6,k7,k8⟩:=cells9 HT1.out.x
 obtain ⟨z0,z1,z2,z3,z4,z5,z6,z7,z8⟩:=cells9 HT1.out.z
 have fx:=frz_blk HT1.out.x
 have fz:=frz_blk HT1.out.z
 cases B1
 ·have HR:Hid (r=(Pt.zero,1)):=by show _=_;rw [HE.out];simp
  go_wp2_with fail
  exact leaf9 HT1.out rfl Tryz.results185 (n:=.int .i64 1) rfl rfl rfl fun W9 HT9 hsz9 HOFF=>(by rw [HR.out];exact res_err _ HT9.out.b)
 have G54':=hid (G54.out rfl)
 clear G54
 go_wp2_with fail
 refine (G48.out _ HT1.out).mono ?_
 rintro e W2 ⟨rfl,t2⟩
 have HT2:=hid t2
 clear t2 k0 k1 k2 k3 k4 k5 k6 k7 k8 z0 z1 z2 z3 z4 z5 z6 z7 z8 fx fz
 obtain ⟨k0,k1,k2,k3,k4,k5,k6,k7,k8⟩:=cells9 HT2.out.x
 obtain ⟨z0,z1,z2,z3,z4,z5,z6,z7,z8⟩:=cells9 HT2.out.z
 have fx:=frz_blk HT2.out.x
 have fz:=frz_blk HT2.out.z
 cases B2
 ·have HR:Hid (r=(Pt.zero,19)):=by show _=_;rw [HE.out];simp
  go_wp2_with fail
  exact leaf9 HT2.out rfl Tryz.results185 (n:=.int .i64 19) rfl rfl rfl fun W9 HT9 hsz9 HOFF=>(by rw [HR.out];exact res_err _ HT9.out.b)
 go_wp2_with fail
 refine (G51.out _ HT2.out).mono ?_
 rintro e W3 ⟨rfl,t3⟩
 have HT3:=hid t3
 clear t3 k0 k1 k2 k3 k4 k5 k6 k7 k8 z0 z1 z2 z3 z4 z5 z6 z7 z8 fx fz
 obtain ⟨k0,k1,k2,k3,k4,k5,k6,k7,k8⟩:=cells9 HT3.out.x
 obtain ⟨z0,z1,z2,z3,z4,z5,z6,z7,z8⟩:=cells9 HT3.out.z
 have fx:=frz_blk HT3.out.x
 have fz:=frz_blk HT3.out.z
 cases B3
 ·have HR:Hid (r=(⟨rid,rld,rep,rvr,rl1,rl2,rl3,rl4,rmn⟩,re)):=by show _=_;rw [HE.out];simp
  go_wp2_with fail
  refine (G54'.out _ HT3.out).mono ?_
  rintro e W4 ⟨v',rfl,h1,h2,hb⟩
  obtain ⟨x1,y1,x2,y2,x3,y3,x4,y4,rfl,q1,q2,q3,q4,ii⟩:=h1.open
  obtain ⟨n1,n2,n3,n4⟩:=h2 _ _ _ _ _ _ _ _ _ rfl
  simp only at q1 q2 q3 q4 n1 n2 n3 n4 ii
  have HT4:=hid (HT3.out.next hb)
  have HL:Hid (IA w W4 (.slice x1 rl1.length y1) rl1∧IA w W4 (.slice x2 rl2.length y2) rl2∧IA w W4 (.slice x3 rl3.length y3) rl3∧IA w W4 (.slice x4 rl4.length y4) rl4):=⟨⟨q1,n1.mono fun b hx=>.inr hx⟩,⟨q2,n2.mono fun b hx=>.inr hx⟩,⟨q3,n3.mono fun b hx=>.inr hx⟩,⟨q4,n4.mono fun b hx=>.inr hx⟩⟩
  have HN:Hid (InP (fun b=>w.heap.size≤b) (.agg (PL rid rld rep rvr x1 rl1 y1 x2 rl2 y2 x3 rl3 y3 x4 rl4 y4 rmn)) ⟨rid,rld,rep,rvr,rl1,rl2,rl3,rl4,rmn⟩):=h2.mono fun b hx=>by omega
  have HI:=hid ii
  clear q1 q2 q3 q4 n1 n2 n3 n4 ii h1 h2 hb k0 k1 k2 k3 k4 k5 k6 k7 k8 z0 z1 z2 z3 z4 z5 z6 z7 z8 fx fz
  obtain ⟨k0,k1,k2,k3,k4,k5,k6,k7,k8⟩:=cells9 HT4.out.x
  obtain ⟨z0,z1,z2,z3,z4,z5,z6,z7,z8⟩:=cells9 HT4.out.z
  have fx:=frz_blk HT4.out.x
  have fz:=frz_blk HT4.out.z
  go_wp2_with fail
  exact leaf9 HT4.out rfl Tryz.results185 (n:=.int .i64 re) rfl rfl rfl fun W9 HT9 hsz9 HOFF=>(by rw [HR.out];exact ⟨_,rfl,⟨_,_,_,_,rfl,HL.out.1.offz HOFF.out hsz9,HL.out.2.1.offz HOFF.out hsz9,HL.out.2.2.1.offz HOFF.out hsz9,HL.out.2.2.2.offz HOFF.out hsz9,HI.out⟩,HN.out,HT9.out.b⟩)
 ·have HR:Hid (r=(Pt.zero,19)):=by show _=_;rw [HE.out];simp
  go_wp2_with fail
  exact leaf9 HT3.out rfl Tryz.results185 (n:=.int .i64 19) rfl rfl rfl fun W9 HT9 hsz9 HOFF=>(by rw [HR.out];exact res_err _ HT9.out.b)
theorem sy1 (a b c d:Bool):(a && b && c && d)=(a && (b && (c && d))):=by simp only [Bool.and_assoc]
theorem sync_any {w:World} {v m u:Value} {p:Pt} {ml up:List Int} (h:PartM w v p) (hm:IL w m ml) (hu:IL w u up):Calls Tryz.prog 200 #[v,m,u] w fun e w'=>e=.returned (.bool (syncB p ml up))∧Below w.heap.size w w':=by
 obtain ⟨id,ld,ep,vr,isr,reps,add,rem,mn⟩:=p
 obtain ⟨a1,c1,a2,c2,a3,c3,a4,c4,rfl,q1,q2,q3,q4,i0,i1,i2,i3,i4⟩:=h.open
 simp only at q1 q2 q3 q4 i0 i1 i2 i3 i4 ⊢
 have Q1:=hid q1
 have Q2:=hid q2
 have Q3:=hid q3
 have Q4:=hid q4
 clear h q1 q2 q3 q4
 have HX:Hid ((w.alloc (.cells (PL id ld ep vr a1 isr c1 a2 reps c2 a3 add c3 a4 rem c4 mn) 54)).heap[w.heap.size]?=some (.cells (PL id ld ep vr a1 isr c1 a2 reps c2 a3 add c3 a4 rem c4 mn) 54)):=heap_alloc_new w _
 have HB:Hid (Below w.heap.size w (w.alloc (.cells (PL id ld ep vr a1 isr c1 a2 reps c2 a3 add c3 a4 rem c4 mn) 54))):=(Below.refl _ _).alloc (Nat.le_refl _) _
 have hsz:(w.alloc (.cells (PL id ld ep vr a1 isr c1 a2 reps c2 a3 add c3 a4 rem c4 mn) 54)).heap.size=w.heap.size+1:=by simp
 obtain ⟨ma,mc,rfl,_⟩:=hm.shape
 obtain ⟨ua,uc,rfl,_⟩:=hu.shape
 have QM:=hid hm
 have QU:=hid hu
 have HN:Hid (syncB ⟨id,ld,ep,vr,isr,reps,add,rem,mn⟩ ml up=(idsB ml && (hasB ml ld && (ml.all (hasB reps) && (outL ml isr).all (hasB up))))):=sy1 _ _ _ _
 have G1:Hid (∀ W,Below w.heap.size w W→Calls Tryz.prog 168 #[.slice ma ml.length mc] W fun e w'=>e=.returned (.bool (idsB ml))∧Below W.heap.size W w'):=fun W hb=>areRight_any (QM.out.under hb)
 have G2:Hid (∀ W,Below w.heap.size w W→Calls Tryz.prog 138 #[.slice ma ml.length mc,.int .i64 ld] W fun e w'=>e=.returned (.bool (hasB ml ld))∧W=w'):=fun W hb=>has_any (QM.out.under hb) ld i1
 have G3:Hid (∀ W,Below w.heap.size w W→Calls Tryz.prog 169 #[.slice ma ml.length mc,.func (.func 138) #[] #[],.slice a2 reps.length c2] W fun e w'=>e=.returned (.bool (ml.all (hasB reps)))∧W=w'):=fun W hb=>areAll39_any (QM.out.under hb) (Q2.out.under hb)
 have G4:Hid (∀ W,Below w.heap.size w W→Calls Tryz.prog 181 #[.slice ma ml.length mc,.func (.func 158) #[] #[],.slice a1 isr.length c1] W fun e w'=>∃ va vc,e=.returned (.slice va (outL ml isr).length vc)∧IL w' (.slice va (outL ml isr).length vc) (outL ml isr)∧Below W.heap.size W w'):=fun W hb=>(those50_any (QM.out.under hb) (Q1.out.under hb)).mono fun e w' ⟨v',e1,e2,e3,e4⟩=>by obtain ⟨va,vc,rfl,_⟩:=e2.shape;exact ⟨va,vc,e1,e2,e4⟩
 have G5:Hid (∀ W va vc,Below w.heap.size w W→IL W (.slice va (outL ml isr).length vc) (outL ml isr)→Calls Tryz.prog 169 #[.slice va (outL ml isr).length vc,.func (.func 138) #[] #[],.slice ua up.length uc] W fun e w'=>e=.returned (.bool ((outL ml isr).all (hasB up)))∧W=w'):=fun W va vc hb h1=>areAll39_any h1 (QU.out.under hb)
 rw [HN.out]
 generalize idsB ml=B1 at *
 generalize hasB ml ld=B2 at *
 generalize ml.all (hasB reps)=B3 at *
 generalize (outL ml isr).all (hasB up)=B4 at *
 generalize outL ml isr=T at *
 clear HN hm hu i0 i1 i2 i3 i4 Q1 Q2 Q3 Q4 QM QU
 go_enter Tryz.func200,Tryz.ntmps200
 go_wp2_with fail
 generalize w.alloc (.cells (PL id ld ep vr a1 isr c1 a2 reps c2 a3 add c3 a4 rem c4 mn) 54)=W0 at *
 refine (G1.out _ HB.out).mono ?_
 rintro e W1 ⟨rfl,hb⟩
 have HB1:=hid (HB.out.trans (hb.mono HB.out.size))
 have HX1:=hid ((hb.block w.heap.size (by omega)).trans HX.out)
 clear hb
 have k1:=cell_blk HX1.out 1 _ rfl
 have k4:=cell_blk HX1.out 4 _ rfl
 have k5:=cell_blk HX1.out 5 _ rfl
 cases B1
 ·go_wp2_with fail
  go_ret
  exact ⟨by first | rfl | simp,HB1.out⟩
 go_wp2_with fail
 refine (G2.out _ HB1.out).mono ?_
 rintro e W2 ⟨rfl,rfl⟩
 cases B2
 ·go_wp2_with fail
  go_ret
  exact ⟨by first | rfl | simp,HB1.out⟩
 go_wp2_with fail
 refine (G3.out _ HB1.out).mono ?_
 rintro e W2 ⟨rfl,rfl⟩
 cases B3
 ·go_wp2_with fail
  go_ret
  exact ⟨by first | rfl | simp,HB1.out⟩
 go_wp2_with fail
 refine (G4.out _ HB1.out).mono ?_
 rintro e W2 ⟨va,vc,rfl,h1,hb⟩
 have HB2:=hid (HB1.out.trans (hb.mono HB1.out.size))
 have H1:=hid h1
 clear h1 hb
 go_wp2_with fail
 refine (G5.out _ _ _ HB2.out H1.out).mono ?_
 rintro e W3 ⟨rfl,rfl⟩
 go_wp2_with fail
 go_ret
 exact ⟨ret_bool (by simp),HB2.out⟩
theorem alter_any {w:World} {v m u:Value} {p:Pt} {il up:List Int} (h:PartM w v p) (l e0 v0:Int) (hl:I64 l) (he0:I64 e0) (hv0:I64 v0) (hm:IL w m il) (hu:IL w u up) :
  Calls Tryz.prog 183 #[v,.int .i64 l,.int .i64 e0,.int .i64 v0,m,u] w fun e w'=>Res (fun b=>w.heap.size≤b) w (alterP p l e0 v0 il up) e w':=by
 obtain ⟨id,ld,ep,vr,isr,reps,add,rem,mn⟩:=p
 obtain ⟨a1,c1,a2,c2,a3,c3,a4,c4,rfl,q1,q2,q3,q4,i0,i1,i2,i3,i4⟩:=h.open
 simp only at q1 q2 q3 q4 i0 i1 i2 i3 i4 ⊢
 have Q1:=hid q1
 have Q2:=hid q2
 have Q3:=hid q3
 have Q4:=hid q4
 clear h q1 q2 q3 q4
 obtain ⟨ma,mc,rfl,_⟩:=hm.shape
 obtain ⟨ua,uc,rfl,_⟩:=hu.shape
 have QM:=hid hm
 have QU:=hid hu
 have HT0:=hid (two_new w (PL id ld ep vr a1 isr c1 a2 reps c2 a3 add c3 a4 rem c4 mn) PZ)
 have HP:Hid (∀ W,Below w.heap.size w W→PartM W (.agg (PL id ld ep vr a1 isr c1 a2 reps c2 a3 add c3 a4 rem c4 mn)) ⟨id,ld,ep,vr,isr,reps,add,rem,mn⟩):=fun W hb=>⟨_,_,_,_,rfl,Q1.out.under hb,Q2.out.under hb,Q3.out.under hb,Q4.out.under hb,i0,i1,i2,i3,i4⟩
 have G12:Hid (∀ W,Below w.heap.size w W→Calls Tryz.prog 96 #[.agg (PL id ld ep vr a1 isr c1 a2 reps c2 a3 add c3 a4 rem c4 mn)] W fun e w'=>e=.returned (.bool (rightB ⟨id,ld,ep,vr,isr,reps,add,rem,mn⟩))∧Below W.heap.size W w'):=fun W hb=>right_any ⟨_,_,_,_,rfl,Q1.out.under hb,Q2.out.under hb,Q3.out.under hb,Q4.out.under hb,i0,i1,i2,i3,i4⟩
 have G15:Hid (∀ W,Below w.heap.size w W→Calls Tryz.prog 62 #[.agg (PL id ld ep vr a1 isr c1 a2 reps c2 a3 add c3 a4 rem c4 mn)] W fun e w'=>∃ v',e=.returned v'∧PartM w' v' ⟨id,ld,ep,vr,isr,reps,add,rem,mn⟩∧InP (fun b=>W.heap.size≤b) v' ⟨id,ld,ep,vr,isr,reps,add,rem,mn⟩∧Below W.heap.size W w'):=fun W hb=>clone_any ⟨_,_,_,_,rfl,Q1.out.under hb,Q2.out.under hb,Q3.out.under hb,Q4.out.under hb,i0,i1,i2,i3,i4⟩
 have G55:Hid (∀ W,TwoB w W (PL id ld ep vr a1 isr c1 a2 reps c2 a3 add c3 a4 rem c4 mn) PZ→Calls Tryz.prog 199 #[.agg (PL id ld ep vr a1 isr c1 a2 reps c2 a3 add c3 a4 rem c4 mn),.int .i64 e0,.int .i64 v0] W fun e w'=>e=.returned (.int .i64 (heldP ⟨id,ld,ep,vr,isr,reps,add,rem,mn⟩ e0 v0))∧TwoB w w' (PL id ld ep vr a1 isr c1 a2 reps c2 a3 add c3 a4 rem c4 mn) PZ):=fun W hT=>(held_any (HP.out W hT.b) e0 v0 he0 hv0).mono fun e w' ⟨e1,e2⟩=>⟨e1,hT.next e2⟩
 have G56:Hid (∀ W,TwoB w W (PL id ld ep vr a1 isr c1 a2 reps c2 a3 add c3 a4 rem c4 mn) PZ→Calls Tryz.prog 200 #[.agg (PL id ld ep vr a1 isr c1 a2 reps c2 a3 add c3 a4 rem c4 mn),.slice ma il.length mc,.slice ua up.length uc] W fun e w'=>e=.returned (.bool (syncB ⟨id,ld,ep,vr,isr,reps,add,rem,mn⟩ il up))∧TwoB w w' (PL id ld ep vr a1 isr c1 a2 reps c2 a3 add c3 a4 rem c4 mn) PZ):=fun W hT=>(sync_any (HP.out W hT.b) (QM.out.under hT.b) (QU.out.under hT.b)).mono fun e w' ⟨e1,e2⟩=>⟨e1,hT.next e2⟩
 have G49:Hid (∀ W,Below w.heap.size w W→Calls Tryz.prog 181 #[.slice a2 reps.length c2,.func (.func 138) #[] #[],.slice ma il.length mc] W fun e w'=>∃ v',e=.returned v'∧IL w' v' (inL reps il)∧In (fun b=>W.heap.size≤b) v' (inL reps il)∧Below W.heap.size W w'):=fun W hb=>those39_any (Q2.out.under hb) (QM.out.under hb)
 have HE:Hid (alterP ⟨id,ld,ep,vr,isr,reps,add,rem,mn⟩ l e0 v0 il up=if !rightB ⟨id,ld,ep,vr,isr,reps,add,rem,mn⟩ then (Pt.zero,1) else if heldP ⟨id,ld,ep,vr,isr,reps,add,rem,mn⟩ e0 v0≠0 then (Pt.zero,heldP ⟨id,ld,ep,vr,isr,reps,add,rem,mn⟩ e0 v0) else if l=0∨l≠ld then (Pt.zero,19) else if !syncB ⟨id,ld,ep,vr,isr,reps,add,rem,mn⟩ il up then (Pt.zero,1) else changedP ⟨id,ld,ep,vr,inL reps il,reps,add,rem,mn⟩ l):=rfl
 have HBD:Hid (rightB ⟨id,ld,ep,vr,isr,reps,add,rem,mn⟩=true→(1≤ep∧ep≤1000000000)∧(1≤vr∧vr≤1000000000)):=fun e=>⟨(rightB_iff.1 e).epoch,(rightB_iff.1 e).ver⟩
 generalize alterP ⟨id,ld,ep,vr,isr,reps,add,rem,mn⟩ l e0 v0 il up=r at *
 generalize inL reps il=T at *
 generalize hc:changedP ⟨id,ld,ep,vr,T,reps,add,rem,mn⟩ l=r2 at *
 obtain ⟨⟨rid,rld,rep,rvr,rl1,rl2,rl3,rl4,rmn⟩,re⟩:=r2
 have HC:=hid hc
 generalize rightB ⟨id,ld,ep,vr,isr,reps,add,rem,mn⟩=B1 at *
 generalize heldP ⟨id,ld,ep,vr,isr,reps,add,rem,mn⟩ e0 v0=E at *
 generalize syncB ⟨id,ld,ep,vr,isr,reps,add,rem,mn⟩ il up=B2 at *
 clear hc HP QM QU hm hu i0 i1 i2 i3 i4 Q1 Q2 Q3 Q4
 go_enter Tryz.func183,Tryz.ntmps183
 go_wp2_with fail
 generalize (w.alloc (.cells (PL id ld ep vr a1 isr c1 a2 reps c2 a3 add c3 a4 rem c4 mn) 54)).alloc (.cells PZ 54)=W0 at *
 refine (G12.out _ HT0.out.b).mono ?_
 rintro e W1 ⟨rfl,hb⟩
 have HT1:=hid (HT0.out.next hb)
 clear hb
 obtain ⟨k0,k1,k2,k3,k4,k5,k6,k7,k8⟩:=cells9 HT1.out.x
 obtain ⟨z0,z1,z2,z3,z4,z5,z6,z7,z8⟩:=cells9 HT1.out.z
 have fx:=frz_blk HT1.out.x
 have fz:=frz_blk HT1.out.z
 cases B1
 ·have HR:Hid (r=(Pt.zero,1)):=by show _=_;rw [HE.out];simp
  go_wp2_with fail
  exact leaf9 HT1.out rfl Tryz.results183 (n:=.int .i64 1) rfl rfl rfl fun W9 HT9 hsz9 HOFF=>(by rw [HR.out];exact res_err _ HT9.out.b)
 obtain ⟨hep,hvr⟩:=HBD.out rfl
 go_wp2_with fail
 refine (G55.out _ HT1.out).mono ?_
 rintro e W2 ⟨rfl,t2⟩
 have HT2:=hid t2
 clear t2 k0 k1 k2 k3 k4 k5 k6 k7 k8 z0 z1 z2 z3 z4 z5 z6 z7 z8 fx fz
 obtain ⟨k0,k1,k2,k3,k4,k5,k6,k7,k8⟩:=cells9 HT2.out.x
 obtain ⟨z0,z1,z2,z3,z4,z5,z6,z7,z8⟩:=cells9 HT2.out.z
 have fx:=frz_blk HT2.out.x
 have fz:=frz_blk HT2.out.z
 by_cases hE:E=0
 case neg =>
  have HR:Hid (r=(Pt.zero,E)):=by show _=_;rw [HE.out];simp [hE]
  go_wp2_with fail
  exact leaf9 HT2.out rfl Tryz.results183 (n:=.int .i64 E) rfl rfl rfl fun W9 HT9 hsz9 HOFF=>(by rw [HR.out];exact res_err _ HT9.out.b)
 subst hE
 by_cases h0:l=0
 ·subst h0
  have HR:Hid (r=(Pt.zero,19)):=by show _=_;rw [HE.out];simp
  go_wp2_with fail
  exact leaf9 HT2.out rfl Tryz.results183 (n:=.int .i64 19) rfl rfl rfl fun W9 HT9 hsz9 HOFF=>(by rw [HR.out];exact res_err _ HT9.out.b)
 have hb1:(l == 0)=false:=by simp [h0]
 by_cases h1:l=ld
 case neg =>
  have hb2:(l != ld)=true:=by simp [h1]
  have HR:Hid (r=(Pt.zero,19)):=by show _=_;rw [HE.out];simp [h1]
  go_wp2_with fail
  exact leaf9 HT2.out rfl Tryz.results183 (n:=.int .i64 19) rfl rfl rfl fun W9 HT9 hsz9 HOFF=>(by rw [HR.out];exact res_err _ HT9.out.b)
 have HLD:Hid (l=ld):=h1
 subst h1
 go_wp2_with fail
 refine (G56.out _ HT2.out).mono ?_
 rintro e W3 ⟨rfl,t3⟩
 have HT3:=hid t3
 clear t3 k0 k1 k2 k3 k4 k5 k6 k7 k8 z0 z1 z2 z3 z4 z5 z6 z7 z8 fx fz
 obtain ⟨k0,k1,k2,k3,k4,k5,k6,k7,k8⟩:=cells9 HT3.out.x
 obtain ⟨z0,z1,z2,z3,z4,z5,z6,z7,z8⟩:=cells9 HT3.out.z
 have fx:=frz_blk HT3.out.x
 have fz:=frz_blk HT3.out.z
 cases B2
 ·have HR:Hid (r=(Pt.zero,1)):=by show _=_;rw [HE.out];simp [h0]
  go_wp2_with fail
  exact leaf9 HT3.out rfl Tryz.results183 (n:=.int .i64 1) rfl rfl rfl fun W9 HT9 hsz9 HOFF=>(by rw [HR.out];exact res_err _ HT9.out.b)
 have HR:Hid (r=(⟨rid,rld,rep,rvr,rl1,rl2,rl3,rl4,rmn⟩,re)):=by show _=_;rw [HE.out];simp [h0]
 clear HE
 go_wp2_with fail
 refine (G15.out _ HT3.out.b).mono ?_
 rintro e W4 ⟨v',rfl,h1,h2,hb⟩
 have h2':=h2.mono (Y:=fun b=>w.heap.size+2≤b) fun b hx=>Nat.le_trans HT3.out.s hx
 obtain ⟨x1,y1,x2,y2,x3,y3,x4,y4,rfl,q1,q2,q3,q4,ii⟩:=h1.open
 obtain ⟨n1,n2,n3,n4⟩:=h2' _ _ _ _ _ _ _ _ _ rfl
 simp only at q1 q2 q3 q4 n1 n2 n3 n4 ii
 have HT4:=hid (HT3.out.next hb)
 have H3:=hid (three_new HT4.out (PL id l ep vr x1 isr y1 x2 reps y2 x3 add y3 x4 rem y4 mn))
 have N2:=hid (ln_old q2 n2 (PL id l ep vr x1 isr y1 x2 reps y2 x3 add y3 x4 rem y4 mn))
 have N3:=hid (ln_old q3 n3 (PL id l ep vr x1 isr y1 x2 reps y2 x3 add y3 x4 rem y4 mn))
 have N4:=hid (ln_old q4 n4 (PL id l ep vr x1 isr y1 x2 reps y2 x3 add y3 x4 rem y4 mn))
 have HI:=hid ii
 have hs4:=HT4.out.s
 clear q1 q2 q3 q4 n1 n2 n3 n4 ii h1 h2 h2' hb k0 k1 k2 k3 k4 k5 k6 k7 k8 z0 z1 z2 z3 z4 z5 z6 z7 z8 fx fz
 obtain ⟨k0,k1,k2,k3,k4,k5,k6,k7,k8⟩:=cells9 HT4.out.x
 obtain ⟨z0,z1,z2,z3,z4,z5,z6,z7,z8⟩:=cells9 HT4.out.z
 have fx:=frz_blk HT4.out.x
 have fz:=frz_blk HT4.out.z
 have hne:w.heap.size<W4.heap.size:=by omega
 go_wp2_with fail
 clear k0 k1 k2 k3 k4 k5 k6 k7 k8 z0 z1 z2 z3 z4 z5 z6 z7 z8 fx fz
 generalize W4.alloc (.cells (PL id l ep vr x1 isr y1 x2 reps y2 x3 add y3 x4 rem y4 mn) 54)=W5 at *
 generalize W4.heap.size=q at *
 refine (G49.out _ H3.out.t.b).mono ?_
 rintro e W6 ⟨v',rfl,h1,h2,hb⟩
 obtain ⟨m1,m2,rfl,_⟩:=h1.shape
 have H6:=hid (H3.out.next hb)
 have M1:=hid (ln_new h1 h2 H3.out.hi H3.out.lo)
 have M2:=hid (N2.out.under hb)
 have M3:=hid (N3.out.under hb)
 have M4:=hid (N4.out.under hb)
 clear h1 h2 hb N2 N3 N4
 obtain ⟨n0,n1,n2,n3,n4,n5,n6,n7,n8⟩:=cells9 H6.out.n
 have fn:=frz_blk H6.out.n
 go_wp2_with fail
 have H7:Hid (ThreeB w (W6.setCell ⟨q,4,none⟩ (.slice m1 T.length m2)) q (PL id l ep vr a1 isr c1 a2 reps c2 a3 add c3 a4 rem c4 mn) PZ (PL id l ep vr m1 T m2 x2 reps y2 x3 add y3 x4 rem y4 mn)):=H6.out.setn 4 _
 have L1:=hid (M1.out.setn 4 (.slice m1 T.length m2))
 have L2:=hid (M2.out.setn 4 (.slice m1 T.length m2))
 have L3:=hid (M3.out.setn 4 (.slice m1 T.length m2))
 have L4:=hid (M4.out.setn 4 (.slice m1 T.length m2))
 clear n0 n1 n2 n3 n4 n5 n6 n7 n8 fn M1 M2 M3 M4 H6
 generalize W6.setCell ⟨q,4,none⟩ (.slice m1 T.length m2)=W7 at *
 have HT7:=hid H7.out.t
 have G53:=hid (changed_any (X:=fun b=>w.heap.size+2≤b) (w:=W7) (v:=.agg (PL id l ep vr m1 T m2 x2 reps y2 x3 add y3 x4 rem y4 mn)) (p:=⟨id,l,ep,vr,T,reps,add,rem,mn⟩) ⟨_,_,_,_,rfl,L1.out.1,L2.out.1,L3.out.1,L4.out.1,HI.out⟩ (inP_of L1.out.in L2.out.in L3.out.in L4.out.in) l hl hep hvr)
 rw [HC.out] at G53
 obtain ⟨k0,k1,k2,k3,k4,k5,k6,k7,k8⟩:=cells9 HT7.out.x
 obtain ⟨z0,z1,z2,z3,z4,z5,z6,z7,z8⟩:=cells9 HT7.out.z
 have fx:=frz_blk HT7.out.x
 have fz:=frz_blk HT7.out.z
 refine G53.out.mono ?_
 rintro e W8 ⟨v',rfl,h1,h2,hb⟩
 obtain ⟨t1,u1,t2,u2,t3,u3,t4,u4,rfl,q1,q2,q3,q4,ii⟩:=h1.open
 obtain ⟨n1,n2,n3,n4⟩:=h2 _ _ _ _ _ _ _ _ _ rfl
 simp only at q1 q2 q3 q4 n1 n2 n3 n4 ii
 have HT8:=hid (HT7.out.next hb)
 have HL:Hid (IA w W8 (.slice t1 rl1.length u1) rl1∧IA w W8 (.slice t2 rl2.length u2) rl2∧IA w W8 (.slice t3 rl3.length u3) rl3∧IA w W8 (.slice t4 rl4.length u4) rl4):=⟨⟨q1,n1.mono fun b hx=>.inr hx⟩,⟨q2,n2.mono fun b hx=>.inr hx⟩,⟨q3,n3.mono fun b hx=>.inr hx⟩,⟨q4,n4.mono fun b hx=>.inr hx⟩⟩
 have HN:Hid (InP (fun b=>w.heap.size≤b) (.agg (PL rid rld rep rvr t1 rl1 u1 t2 rl2 u2 t3 rl3 u3 t4 rl4 u4 rmn)) ⟨rid,rld,rep,rvr,rl1,rl2,rl3,rl4,rmn⟩):=h2.mono fun b hx=>by omega
 have HI:=hid ii
 clear q1 q2 q3 q4 n1 n2 n3 n4 ii h1 h2 hb k0 k1 k2 k3 k4 k5 k6 k7 k8 z0 z1 z2 z3 z4 z5 z6 z7 z8 fx fz
 obtain ⟨k0,k1,k2,k3,k4,k5,k6,k7,k8⟩:=cells9 HT8.out.x
 obtain ⟨z0,z1,z2,z3,z4,z5,z6,z7,z8⟩:=cells9 HT8.out.z
 have fx:=frz_blk HT8.out.x
 have fz:=frz_blk HT8.out.z
 go_wp2_with fail
 exact leaf9 HT8.out rfl Tryz.results183 (n:=.int .i64 re) rfl rfl rfl fun W9 HT9 hsz9 HOFF=>(by rw [HR.out];exact ⟨_,rfl,⟨_,_,_,_,rfl,HL.out.1.offz HOFF.out hsz9,HL.out.2.1.offz HOFF.out hsz9,HL.out.2.2.1.offz HOFF.out hsz9,HL.out.2.2.2.offz HOFF.out hsz9,HI.out⟩,HN.out,HT9.out.b⟩)
end Go.Proofs.YtcffomhcmilcpaaGreat
