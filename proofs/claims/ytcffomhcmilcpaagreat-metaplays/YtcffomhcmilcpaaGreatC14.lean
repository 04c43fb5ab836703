/- Finish. -/
import Derived.Test.YtcffomhcmilcpaaGreatC3
import Derived.Deep.RegionHeld3
set_option maxRecDepth 100000
set_option maxHeartbeats 20000000
set_option linter.unusedVariables false
set_option linter.unusedSimpArgs false
namespace Go.Proofs.YtcffomhcmilcpaaGreat
open Go.RowKit Go.Maps
theorem finish_any {w:World} {v u:Value} {p:Pt} {up:List Int} (h:PartM w v p) (hu:IL w u up) :
  Calls Tryz.prog 186 #[v,u] w fun e w'=>Res (fun b=>w.heap.size≤b) w (finishP p up) e w':=by
 obtain ⟨id,ld,ep,vr,isr,reps,add,rem,mn⟩:=p
 obtain ⟨a1,c1,a2,c2,a3,c3,a4,c4,rfl,q1,q2,q3,q4,i0,i1,i2,i3,i4⟩:=h.open
 simp only at q1 q2 q3 q4 i0 i1 i2 i3 i4 ⊢
 have Q1:=hid q1
 have Q2:=hid q2
 have Q3:=hid q3
 have Q4:=hid q4
 clear h q1 q2 q3 q4
 obtain ⟨ua,uc,rfl,_⟩:=hu.shape
 have QU:=hid hu
 have HT0:=hid (two_new w (PL id ld ep vr a1 isr c1 a2 reps c2 a3 add c3 a4 rem c4 mn) PZ)
 have G12:Hid (∀ W,Below w.heap.size w W→Calls Tryz.prog 96 #[.agg (PL id ld ep vr a1 isr c1 a2 reps c2 a3 add c3 a4 rem c4 mn)] W fun e w'=>e=.returned (.bool (rightB ⟨id,ld,ep,vr,isr,reps,add,rem,mn⟩))∧Below W.heap.size W w'):=fun W hb=>right_any ⟨_,_,_,_,rfl,Q1.out.under hb,Q2.out.under hb,Q3.out.under hb,Q4.out.under hb,i0,i1,i2,i3,i4⟩
 have HP:Hid (∀ W,Below w.heap.size w W→PartM W (.agg (PL id ld ep vr a1 isr c1 a2 reps c2 a3 add c3 a4 rem c4 mn)) ⟨id,ld,ep,vr,isr,reps,add,rem,mn⟩):=fun W hb=>⟨_,_,_,_,rfl,Q1.out.under hb,Q2.out.under hb,Q3.out.under hb,Q4.out.under hb,i0,i1,i2,i3,i4⟩
 have G48:Hid (∀ W,TwoB w W (PL id ld ep vr a1 isr c1 a2 reps c2 a3 add c3 a4 rem c4 mn) PZ→Calls Tryz.prog 202 #[.agg (PL id ld ep vr a1 isr c1 a2 reps c2 a3 add c3 a4 rem c4 mn)] W fun e w'=>e=.returned (.bool (movingB ⟨id,ld,ep,vr,isr,reps,add,rem,mn⟩))∧TwoB w w' (PL id ld ep vr a1 isr c1 a2 reps c2 a3 add c3 a4 rem c4 mn) PZ):=fun W hT=>(moving_any (HP.out W hT.b)).mono fun e w' ⟨e1,e2⟩=>⟨e1,hT.next e2⟩
 have G57:Hid (∀ W,TwoB w W (PL id ld ep vr a1 isr c1 a2 reps c2 a3 add c3 a4 rem c4 mn) PZ→Calls Tryz.prog 170 #[.agg (PL id ld ep vr a1 isr c1 a2 reps c2 a3 add c3 a4 rem c4 mn)] W fun e w'=>∃ va vc,e=.returned (.slice va (targetsP ⟨id,ld,ep,vr,isr,reps,add,rem,mn⟩).length vc)∧IL w' (.slice va (targetsP ⟨id,ld,ep,vr,isr,reps,add,rem,mn⟩).length vc) (targetsP ⟨id,ld,ep,vr,isr,reps,add,rem,mn⟩)∧TwoB w w' (PL id ld ep vr a1 isr c1 a2 reps c2 a3 add c3 a4 rem c4 mn) PZ):=fun W hT=>(targets_any (HP.out W hT.b)).mono fun e w' ⟨v',e1,e2,e3⟩=>by obtain ⟨va,vc,rfl,_⟩:=e2.shape;exact ⟨va,vc,e1,e2,hT.next e3⟩
 have G51:Hid (∀ W va vc,IL W (.slice va (targetsP ⟨id,ld,ep,vr,isr,reps,add,rem,mn⟩).length vc) (targetsP ⟨id,ld,ep,vr,isr,reps,add,rem,mn⟩)→TwoB w W (PL id ld ep vr a1 isr c1 a2 reps c2 a3 add c3 a4 rem c4 mn) PZ→Calls Tryz.prog 169 #[.slice va (targetsP ⟨id,ld,ep,vr,isr,reps,add,rem,mn⟩).length vc,.func (.func 138) #[] #[],.slice a1 isr.length c1] W fun e w'=>e=.returned (.bool ((targetsP ⟨id,ld,ep,vr,isr,reps,add,rem,mn⟩).all (hasB isr)))∧W=w'):=fun W va vc h1 hT=>areAll39_any h1 (Q1.out.under hT.b)
 have HE:Hid (finishP ⟨id,ld,ep,vr,isr,reps,add,rem,mn⟩ up=if !rightB ⟨id,ld,ep,vr,isr,reps,add,rem,mn⟩ then (Pt.zero,1) else if !movingB ⟨id,ld,ep,vr,isr,reps,add,rem,mn⟩ || !(targetsP ⟨id,ld,ep,vr,isr,reps,add,rem,mn⟩).all (hasB isr) then (Pt.zero,19) else settledP ⟨id,ld,ep,vr,isr,reps,add,rem,mn⟩ rem up):=rfl
 have G54:Hid (rightB ⟨id,ld,ep,vr,isr,reps,add,rem,mn⟩=true→∀ W,TwoB w W (PL id ld ep vr a1 isr c1 a2 reps c2 a3 add c3 a4 rem c4 mn) PZ→Calls Tryz.prog 205 #[.agg (PL id ld ep vr a1 isr c1 a2 reps c2 a3 add c3 a4 rem c4 mn),.slice a4 rem.length c4,.slice ua up.length uc] W fun e w'=>Res (fun b=>w.heap.size+2≤b) W (settledP ⟨id,ld,ep,vr,isr,reps,add,rem,mn⟩ rem up) e w'):=fun hr W hT=>(settled_any (HP.out W hT.b) (Q4.out.under hT.b) (QU.out.under hT.b) (rightB_iff.1 hr).epoch (rightB_iff.1 hr).ver).mono fun e w' ⟨v',e1,e2,e3,e4⟩=>⟨v',e1,e2,e3.mono fun b hx=>Nat.le_trans hT.s hx,e4⟩
 generalize finishP ⟨id,ld,ep,vr,isr,reps,add,rem,mn⟩ up=r at *
 generalize hc:settledP ⟨id,ld,ep,vr,isr,reps,add,rem,mn⟩ rem up=r2 at *
 obtain ⟨⟨rid,rld,rep,rvr,rl1,rl2,rl3,rl4,rmn⟩,re⟩:=r2
 generalize rightB ⟨id,ld,ep,vr,isr,reps,add,rem,mn⟩=B1 at *
 generalize movingB ⟨id,ld,ep,vr,isr,reps,add,rem,mn⟩=B2 at *
 generalize (targetsP ⟨id,ld,ep,vr,isr,reps,add,rem,mn⟩).all (hasB isr)=B3 at *
 generalize targetsP ⟨id,ld,ep,vr,isr,reps,add,rem,mn⟩=T at *
 clear hc i0 i1 i2 i3 i4 HP QU Q1 Q2 Q3 Q4 hu
 go_enter Tryz.func186,Tryz.ntmps186
 go_wp2_with fail
 generalize (w.alloc (.cells (PL id ld ep vr a1 isr c1 a2 reps c2 a3 add c3 a4 rem c4 mn) 54)).alloc (.cells PZ 54)=W0 at *
 refine (G12.out _ HT0.out.b).mono ?_
 rintro e W1 ⟨rfl,hb⟩
 have HT1:=hid (HT0.out.next hb)
 clear hb
 obtain ⟨k0,k1,k2,k3,k4,k5,k6,k7,k8⟩:=cells9 HT1.out.x
 obtain ⟨z0,z1,z2,z3,z4,z5,z6,z7,z8⟩:=cells9 HT1.out.z
 have fx:=frz_blk HT1.out.x
 have fz:=frz_blk HT1.out.z
 cases B1
 ·have HR:Hid (r=(Pt.zero,1)):=by show _=_;rw [HE.out];simp
  go_wp2_with fail
  exact leaf9 HT1.out rfl Tryz.results186 (n:=.int .i64 1) rfl rfl rfl fun W9 HT9 hsz9 HOFF=>(by rw [HR.out];exact res_err _ HT9.out.b)
 have G54':=hid (G54.out rfl)
 clear G54
 cases B2
 ·have HR:Hid (r=(Pt.zero,19)):=by show _=_;rw [HE.out];simp
  go_wp2_with fail
  first | (go_region_with (first | (go_at_call 202;refine (G48.out _ (by first | exact HT1.out | exact HT1.out.drew)).mono ?_;rintro e W2 ⟨rfl,t2⟩;have HT2:=hid t2;clear t2;have k0:=cell_blk HT2.out.x 0 _ rfl;have k1:=cell_blk HT2.out.x 1 _ rfl;have k2:=cell_blk HT2.out.x 2 _ rfl;have k3:=cell_blk HT2.out.x 3 _ rfl;have k4:=cell_blk HT2.out.x 4 _ rfl;have k5:=cell_blk HT2.out.x 5 _ rfl;have k6:=cell_blk HT2.out.x 6 _ rfl;have k7:=cell_blk HT2.out.x 7 _ rfl;have k8:=cell_blk HT2.out.x 8 _ rfl;have z0:=cell_blk HT2.out.z 0 _ rfl;have z1:=cell_blk HT2.out.z 1 _ rfl;have z2:=cell_blk HT2.out.z 2 _ rfl;have z3:=cell_blk HT2.out.z 3 _ rfl;have z4:=cell_blk HT2.out.z 4 _ rfl;have z5:=cell_blk HT2.out.z 5 _ rfl;have z6:=cell_blk HT2.out.z 6 _ rfl;have z7:=cell_blk HT2.out.z 7 _ rfl;have z8:=cell_blk HT2.out.z 8 _ rfl;have fx:=frz_blk HT2.out.x;have fz:=frz_blk HT2.out.z) | fail)) | fail
  all_goals
   go_wp2_with fail
   exact leaf9 HT2.out rfl Tryz.results186 (n:=.int .i64 19) rfl rfl rfl fun W9 HT9 hsz9 HOFF=>(by rw [HR.out];exact res_err _ HT9.out.b)
 go_wp2_with fail
 go_region_with (first
  | (go_at_call 202;refine (G48.out _ (by first | exact HT1.out | exact HT1.out.drew)).mono ?_;rintro e W2 ⟨rfl,t2⟩;have HT2:=hid t2;clear t2;have k0:=cell_blk HT2.out.x 0 _ rfl;have k1:=cell_blk HT2.out.x 1 _ rfl;have k2:=cell_blk HT2.out.x 2 _ rfl;have k3:=cell_blk HT2.out.x 3 _ rfl;have k4:=cell_blk HT2.out.x 4 _ rfl;have k5:=cell_blk HT2.out.x 5 _ rfl;have k6:=cell_blk HT2.out.x 6 _ rfl;have k7:=cell_blk HT2.out.x 7 _ rfl;have k8:=cell_blk HT2.out.x 8 _ rfl;have z0:=cell_blk HT2.out.z 0 _ rfl;have z1:=cell_blk HT2.out.z 1 _ rfl;have z2:=cell_blk HT2.out.z 2 _ rfl;have z3:=cell_blk HT2.out.z 3 _ rfl;have z4:=cell_blk HT2.out.z 4 _ rfl;have z5:=cell_blk HT2.out.z 5 _ rfl;have z6:=cell_blk HT2.out.z 6 _ rfl;have z7:=cell_blk HT2.out.z 7 _ rfl;have z8:=cell_blk HT2.out.z 8 _ rfl;have fx:=frz_blk HT2.out.x;have fz:=frz_blk HT2.out.z)
  | (go_at_call 170;refine (G57.out _ (by first | exact HT2.out | exact HT2.out.drew)).mono ?_;rintro e W3 ⟨va,vc,rfl,h3,t3⟩;have HT3:=hid t3;have H3:=hid h3;clear t3 h3;have k0:=cell_blk HT3.out.x 0 _ rfl;have k1:=cell_blk HT3.out.x 1 _ rfl;have k2:=cell_blk HT3.out.x 2 _ rfl;have k3:=cell_blk HT3.out.x 3 _ rfl;have k4:=cell_blk HT3.out.x 4 _ rfl;have k5:=cell_blk HT3.out.x 5 _ rfl;have k6:=cell_blk HT3.out.x 6 _ rfl;have k7:=cell_blk HT3.out.x 7 _ rfl;have k8:=cell_blk HT3.out.x 8 _ rfl;have z0:=cell_blk HT3.out.z 0 _ rfl;have z1:=cell_blk HT3.out.z 1 _ rfl;have z2:=cell_blk HT3.out.z 2 _ rfl;have z3:=cell_blk HT3.out.z 3 _ rfl;have z4:=cell_blk HT3.out.z 4 _ rfl;have z5:=cell_blk HT3.out.z 5 _ rfl;have z6:=cell_blk HT3.out.z 6 _ rfl;have z7:=cell_blk HT3.out.z 7 _ rfl;have z8:=cell_blk HT3.out.z 8 _ rfl;have fx:=frz_blk HT3.out.x;have fz:=frz_blk HT3.out.z)
  | (go_at_call 169;refine (G51.out _ _ _ (by first | exact H3.out) (by first | exact HT3.out)).mono ?_;rintro e W4 ⟨rfl,rfl⟩))
 all_goals
  cases B3
  ·have HR:Hid (r=(Pt.zero,19)):=by show _=_;rw [HE.out];simp
   go_wp2_with fail
   exact leaf9 HT3.out rfl Tryz.results186 (n:=.int .i64 19) rfl rfl rfl fun W9 HT9 hsz9 HOFF=>(by rw [HR.out];exact res_err _ HT9.out.b)
  have HR:Hid (r=(⟨rid,rld,rep,rvr,rl1,rl2,rl3,rl4,rmn⟩,re)):=by show _=_;rw [HE.out];simp
  go_wp2_with fail
  refine (G54'.out _ HT3.out).mono ?_
  rintro e W4 ⟨v',rfl,h1,h2,hb⟩
  obtain ⟨x1,y1,x2,y2,x3,y3,x4,y4,rfl,q1,q2,q3,q4,ii⟩:=h1.open
  obtain ⟨n1,n2,n3,n4⟩:=h2 _ _ _ _ _ _ _ _ _ rfl
  simp only at q1 q2 q3 q4 n1 n2 n3 n4 ii
  have HT4:=hid (HT3.out.next hb)
  have HL:Hid (IA w W4 (.slice x1 rl1.length y1) rl1∧IA w W4 (.slice x2 rl2.length y2) rl2∧IA w W4 (.slice x3 rl3.length y3) rl3∧IA w W4 (.slice x4 rl4.length y4) rl4):=⟨⟨q1,n1.mono fun b hx=>.inr hx⟩,⟨q2,n2.mono fun b hx=>.inr hx⟩,⟨q3,n3.mono fun b hx=>.inr hx⟩,⟨q4,n4.mono fun b hx=>.inr hx⟩⟩
  have HN:Hid (InP (fun b=>w.heap.size≤b) (.agg (PL rid rld rep rvr x1 rl1 y1 x2 rl2 y2 x3 rl3 y3 x4 rl4 y4 rmn)) ⟨rid,rld,rep,rvr,rl1,rl2,rl3,rl4,rmn⟩):=h2.mono fun b hx=>by omega
  have HI:=hid ii
  clear q1 q2 q3 q4 n1 n2 n3 n4 ii h1 h2 hb k0 k1 k2 k3 k4 k5 k6 k7 k8 z0 z1 z2 z3 z4 z5 z6 z7 z8 fx fz
  obtain ⟨k0,k1,k2,k3,k4,k5,k6,k7,k8⟩:=cells9 HT4.out.x
  obtain ⟨z0,z1,z2,z3,z4,z5,z6,z7,z8⟩:=cells9 HT4.out.z
  have fx:=frz_blk HT4.out.x
  have fz:=frz_blk HT4.out.z
  go_wp2_with fail
  exact leaf9 HT4.out rfl Tryz.results186 (n:=.int .i64 re) rfl rfl rfl fun W9 HT9 hsz9 HOFF=>(by rw [HR.out];exact ⟨_,rfl,⟨_,_,_,_,rfl,HL.out.1.offz HOFF.out hsz9,HL.out.2.1.offz HOFF.out hsz9,HL.out.2.2.1.offz HOFF.out hsz9,HL.out.2.2.2.offz HOFF.out hsz9,HI.out⟩,HN.out,HT9.out.b⟩)
end Go.Proofs.YtcffomhcmilcpaaGreat
