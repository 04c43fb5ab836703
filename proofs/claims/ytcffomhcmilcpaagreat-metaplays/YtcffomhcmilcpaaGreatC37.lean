/- finish: the document's. -/
import Derived.Test.YtcffomhcmilcpaaGreatC28
set_option maxRecDepth 100000
set_option maxHeartbeats 20000000
set_option linter.unusedVariables false
set_option linter.unusedSimpArgs false
namespace Go.Proofs.YtcffomhcmilcpaaGreat
open Go.RowKit Go.Maps
theorem rfinish_any {w:World} {v u:Value} {p:Pt} {up:List Int} (h:PartM w v p) (hu:IL w u up) :
  Calls Tryz.prog 82 #[v,u] w fun e w'=>Res (fun b=>w.heap.size≤b) w (finishP p up) e w':=by
 obtain ⟨id,ld,ep,vr,isr,reps,add,rem,mn⟩:=p
 obtain ⟨a1,c1,a2,c2,a3,c3,a4,c4,rfl,q1,q2,q3,q4,i0,i1,i2,i3,i4⟩:=h.open
 simp only at q1 q2 q3 q4 i0 i1 i2 i3 i4 ⊢
 have Q1:=hid q1
 have Q2:=hid q2
 have Q3:=hid q3
 have Q4:=hid q4
 clear h q1 q2 q3 q4
 obtain ⟨ua,uc,rfl,_⟩:=hu.shape
 have QU:=hid hu
 have HT0:=hid (two_new w (PL id ld ep vr a1 isr c1 a2 reps c2 a3 add c3 a4 rem c4 mn) PZ)
 have G13:Hid (∀ W,Below w.heap.size w W→Calls Tryz.prog 106 #[.agg (PL id ld ep vr a1 isr c1 a2 reps c2 a3 add c3 a4 rem c4 mn)] W fun e w'=>e=.returned (.bool (rightB ⟨id,ld,ep,vr,isr,reps,add,rem,mn⟩))∧Below W.heap.size W w'):=fun W hb=>rright_any ⟨_,_,_,_,rfl,Q1.out.under hb,Q2.out.under hb,Q3.out.under hb,Q4.out.under hb,i0,i1,i2,i3,i4⟩
 have G60:Hid (∀ W,Below w.heap.size w W→Calls Tryz.prog 125 #[.agg (PL id ld ep vr a1 isr c1 a2 reps c2 a3 add c3 a4 rem c4 mn)] W fun e w'=>∃ v',e=.returned v'∧PartM w' v' ⟨id,ld,ep,vr,isr,reps,add,rem,mn⟩∧InP (fun b=>W.heap.size≤b) v' ⟨id,ld,ep,vr,isr,reps,add,rem,mn⟩∧Below W.heap.size W w'):=fun W hb=>rclone_any ⟨_,_,_,_,rfl,Q1.out.under hb,Q2.out.under hb,Q3.out.under hb,Q4.out.under hb,i0,i1,i2,i3,i4⟩
 have HE0:Hid (rightB ⟨id,ld,ep,vr,isr,reps,add,rem,mn⟩=false→finishP ⟨id,ld,ep,vr,isr,reps,add,rem,mn⟩ up=(Pt.zero,1)):=fun e=>by unfold finishP;rw [e];rfl
 have HE:Hid (rightB ⟨id,ld,ep,vr,isr,reps,add,rem,mn⟩=true→finishP ⟨id,ld,ep,vr,isr,reps,add,rem,mn⟩ up=if !movingB ⟨id,ld,ep,vr,isr,reps,add,rem,mn⟩ || !(targetsP ⟨id,ld,ep,vr,isr,reps,add,rem,mn⟩).all (hasB isr) then (Pt.zero,19) else if ld≠0∧hasB (targetsP ⟨id,ld,ep,vr,isr,reps,add,rem,mn⟩) ld=false then verP (ledP ⟨id,ld,ep,vr,(inL isr (targetsP ⟨id,ld,ep,vr,isr,reps,add,rem,mn⟩)),(targetsP ⟨id,ld,ep,vr,isr,reps,add,rem,mn⟩),[],[],mn⟩ (headL (docL (targetsP ⟨id,ld,ep,vr,isr,reps,add,rem,mn⟩) (inL isr (targetsP ⟨id,ld,ep,vr,isr,reps,add,rem,mn⟩)) up 0))) else verP ⟨id,ld,ep,vr,(inL isr (targetsP ⟨id,ld,ep,vr,isr,reps,add,rem,mn⟩)),(targetsP ⟨id,ld,ep,vr,isr,reps,add,rem,mn⟩),[],[],mn⟩):=fun h1=>finish_doc (rightB_iff.1 h1) up
 have HBD:Hid (rightB ⟨id,ld,ep,vr,isr,reps,add,rem,mn⟩=true→(1≤ep∧ep≤1000000000)∧(1≤vr∧vr≤1000000000)):=fun e=>⟨(rightB_iff.1 e).epoch,(rightB_iff.1 e).ver⟩
 have HM:Hid (movingB ⟨id,ld,ep,vr,isr,reps,add,rem,mn⟩=decide (0<add.length+rem.length)):=moving_doc _
 have hw1:IntKind.i64.wrap ((add.length:Int)+(rem.length:Int))=(add.length:Int)+(rem.length:Int):=by
  have:=Q3.out.few
  have:=Q4.out.few
  have h1:-9223372036854775808≤(add.length:Int)+(rem.length:Int):=by omega
  have h2:(add.length:Int)+(rem.length:Int)≤9223372036854775807:=by omega
  exact IntWalk.i64_in _ ⟨h1,h2⟩
 have HIL:Hid (I64 ld):=i1
 have G63:Hid (∀ W,Below w.heap.size w W→Calls Tryz.prog 130 #[.slice a2 reps.length c2,.slice a4 rem.length c4] W fun e w'=>∃ ra rc,e=.returned (.slice ra (targetsP ⟨id,ld,ep,vr,isr,reps,add,rem,mn⟩).length rc)∧IL w' (.slice ra (targetsP ⟨id,ld,ep,vr,isr,reps,add,rem,mn⟩).length rc) (targetsP ⟨id,ld,ep,vr,isr,reps,add,rem,mn⟩)∧In (fun b=>W.heap.size≤b) (.slice ra (targetsP ⟨id,ld,ep,vr,isr,reps,add,rem,mn⟩).length rc) (targetsP ⟨id,ld,ep,vr,isr,reps,add,rem,mn⟩)∧Below W.heap.size W w'):=fun W hb=>rout_sl (Q2.out.under hb) (Q4.out.under hb)
 have G41:Hid (∀ W ra rc,Below w.heap.size w W→IL W (.slice ra (targetsP ⟨id,ld,ep,vr,isr,reps,add,rem,mn⟩).length rc) (targetsP ⟨id,ld,ep,vr,isr,reps,add,rem,mn⟩)→Calls Tryz.prog 129 #[.slice ra (targetsP ⟨id,ld,ep,vr,isr,reps,add,rem,mn⟩).length rc,.slice a1 isr.length c1] W fun e w'=>e=.returned (.bool ((targetsP ⟨id,ld,ep,vr,isr,reps,add,rem,mn⟩).all (hasB isr)))∧Below W.heap.size W w'):=fun W ra rc hb h1=>rpart_any h1 (Q1.out.under hb)
 have G43:Hid (∀ W x1 y1 ta tc,IL W (.slice x1 isr.length y1) isr→IL W (.slice ta (targetsP ⟨id,ld,ep,vr,isr,reps,add,rem,mn⟩).length tc) (targetsP ⟨id,ld,ep,vr,isr,reps,add,rem,mn⟩)→Calls Tryz.prog 131 #[.slice x1 isr.length y1,.slice ta (targetsP ⟨id,ld,ep,vr,isr,reps,add,rem,mn⟩).length tc] W fun e w'=>∃ ra rc,e=.returned (.slice ra (inL isr (targetsP ⟨id,ld,ep,vr,isr,reps,add,rem,mn⟩)).length rc)∧IL w' (.slice ra (inL isr (targetsP ⟨id,ld,ep,vr,isr,reps,add,rem,mn⟩)).length rc) (inL isr (targetsP ⟨id,ld,ep,vr,isr,reps,add,rem,mn⟩))∧In (fun b=>W.heap.size≤b) (.slice ra (inL isr (targetsP ⟨id,ld,ep,vr,isr,reps,add,rem,mn⟩)).length rc) (inL isr (targetsP ⟨id,ld,ep,vr,isr,reps,add,rem,mn⟩))∧Below W.heap.size W w'):=fun W x1 y1 ta tc h1 h2=>rin_sl h1 h2
 have G42:Hid (∀ W ta tc,IL W (.slice ta (targetsP ⟨id,ld,ep,vr,isr,reps,add,rem,mn⟩).length tc) (targetsP ⟨id,ld,ep,vr,isr,reps,add,rem,mn⟩)→Calls Tryz.prog 83 #[.slice ta (targetsP ⟨id,ld,ep,vr,isr,reps,add,rem,mn⟩).length tc,.int .i64 ld] W fun e w'=>e=.returned (.bool (hasB (targetsP ⟨id,ld,ep,vr,isr,reps,add,rem,mn⟩) ld))∧W=w'):=fun W ta tc h1=>rhas_any h1 ld HIL.out
 have HIH:Hid (∀ W ta tc,IL W (.slice ta (targetsP ⟨id,ld,ep,vr,isr,reps,add,rem,mn⟩).length tc) (targetsP ⟨id,ld,ep,vr,isr,reps,add,rem,mn⟩)→I64 (headL (docL (targetsP ⟨id,ld,ep,vr,isr,reps,add,rem,mn⟩) (inL isr (targetsP ⟨id,ld,ep,vr,isr,reps,add,rem,mn⟩)) up 0))):=fun W ta tc h1=>doc_i64 h1 _ _ _
 have G64:Hid (∀ W ta tc ra rc,Below w.heap.size w W→IL W (.slice ta (targetsP ⟨id,ld,ep,vr,isr,reps,add,rem,mn⟩).length tc) (targetsP ⟨id,ld,ep,vr,isr,reps,add,rem,mn⟩)→IL W (.slice ra (inL isr (targetsP ⟨id,ld,ep,vr,isr,reps,add,rem,mn⟩)).length rc) (inL isr (targetsP ⟨id,ld,ep,vr,isr,reps,add,rem,mn⟩))→Calls Tryz.prog 133 #[.slice ta (targetsP ⟨id,ld,ep,vr,isr,reps,add,rem,mn⟩).length tc,.slice ra (inL isr (targetsP ⟨id,ld,ep,vr,isr,reps,add,rem,mn⟩)).length rc,.slice ua up.length uc,.int .i64 0] W fun e w'=>e=.returned (.int .i64 (headL (docL (targetsP ⟨id,ld,ep,vr,isr,reps,add,rem,mn⟩) (inL isr (targetsP ⟨id,ld,ep,vr,isr,reps,add,rem,mn⟩)) up 0)))∧W=w'):=fun W ta tc ra rc hb h1 h2=>(rfirst_any h1 h2 (QU.out.under hb) 0 i64z).mono fun e w' ⟨e1,e2,e3⟩=>⟨e1,e3⟩
 generalize finishP ⟨id,ld,ep,vr,isr,reps,add,rem,mn⟩ up=r at *
 generalize rightB ⟨id,ld,ep,vr,isr,reps,add,rem,mn⟩=B1 at *
 generalize movingB ⟨id,ld,ep,vr,isr,reps,add,rem,mn⟩=BM at *
 generalize (targetsP ⟨id,ld,ep,vr,isr,reps,add,rem,mn⟩).all (hasB isr)=B2 at *
 generalize headL (docL (targetsP ⟨id,ld,ep,vr,isr,reps,add,rem,mn⟩) (inL isr (targetsP ⟨id,ld,ep,vr,isr,reps,add,rem,mn⟩)) up 0)=H at *
 generalize hasB (targetsP ⟨id,ld,ep,vr,isr,reps,add,rem,mn⟩) ld=B3 at *
 generalize (inL isr (targetsP ⟨id,ld,ep,vr,isr,reps,add,rem,mn⟩))=I at *
 generalize (targetsP ⟨id,ld,ep,vr,isr,reps,add,rem,mn⟩)=T at *
 clear i0 i1 i2 i3 i4 Q1 Q2 Q3 Q4 QU hu
 go_enter Tryz.func82,Tryz.ntmps82
 go_wp2_with fail
 generalize (w.alloc (.cells (PL id ld ep vr a1 isr c1 a2 reps c2 a3 add c3 a4 rem c4 mn) 54)).alloc (.cells PZ 54)=W0 at *
 refine (G13.out _ HT0.out.b).mono ?_
 rintro e W1 ⟨rfl,hb⟩
 have HT1:=hid (HT0.out.next hb)
 clear hb
 obtain ⟨k0,k1,k2,k3,k4,k5,k6,k7,k8⟩:=cells9 HT1.out.x
 obtain ⟨z0,z1,z2,z3,z4,z5,z6,z7,z8⟩:=cells9 HT1.out.z
 have fx:=frz_blk HT1.out.x
 have fz:=frz_blk HT1.out.z
 cases B1
 ·have HR:Hid (r=(Pt.zero,1)):=HE0.out rfl
  go_wp2_with fail
  exact leaf9 HT1.out rfl Tryz.results82 (n:=.int .i64 1) rfl rfl rfl fun W9 HT9 hsz9 HOFF=>(by rw [HR.out];exact res_err _ HT9.out.b)
 obtain ⟨hep,hvr⟩:=HBD.out rfl
 have HE2:=hid (HE.out rfl)
 clear HE HE0 HBD
 go_wp2_with fail
 refine (G63.out _ HT1.out.b).mono ?_
 rintro e V2 ⟨ta,tc,rfl,h1,h2,hb⟩
 have HG:=hid (nw_new (w:=w) h1 h2 HT1.out.s)
 clear h1 h2
 have HT2:=hid (HT1.out.next hb)
 clear hb HT1 k0 k1 k2 k3 k4 k5 k6 k7 k8 z0 z1 z2 z3 z4 z5 z6 z7 z8 fx fz
 obtain ⟨k0,k1,k2,k3,k4,k5,k6,k7,k8⟩:=cells9 HT2.out.x
 obtain ⟨z0,z1,z2,z3,z4,z5,z6,z7,z8⟩:=cells9 HT2.out.z
 have fx:=frz_blk HT2.out.x
 have fz:=frz_blk HT2.out.z
 go_wp2_with fail
 refine (G41.out _ _ _ HT2.out.b HG.out.1).mono ?_
 rintro e V3 ⟨rfl,hb⟩
 have HG3:=hid (HG.out.under hb)
 have HT3:=hid (HT2.out.next hb)
 clear hb HT2 k0 k1 k2 k3 k4 k5 k6 k7 k8 z0 z1 z2 z3 z4 z5 z6 z7 z8 fx fz
 obtain ⟨k0,k1,k2,k3,k4,k5,k6,k7,k8⟩:=cells9 HT3.out.x
 obtain ⟨z0,z1,z2,z3,z4,z5,z6,z7,z8⟩:=cells9 HT3.out.z
 have fx:=frz_blk HT3.out.x
 have fz:=frz_blk HT3.out.z
 clear HG
 by_cases hm:(add.length:Int)+(rem.length:Int)=0
 ·have c1:((add.length:Int)+(rem.length:Int) == 0)=true:=beq_iff_eq.2 hm
  have HR:Hid (r=(Pt.zero,19)):=by
   show _=_
   have:BM=false:=by rw [HM.out];exact decide_eq_false (by omega)
   rw [HE2.out,this];simp
  clear hm
  go_wp2_with fail
  exact leaf9 HT3.out rfl Tryz.results82 (n:=.int .i64 19) rfl rfl rfl fun W9 HT9 hsz9 HOFF=>(by rw [HR.out];exact res_err _ HT9.out.b)
 have c1:((add.length:Int)+(rem.length:Int) == 0)=false:=beq_eq_false_iff_ne.2 hm
 have HBM:Hid (BM=true):=by show _=_;rw [HM.out];exact decide_eq_true (by omega)
 clear hm HM
 rw [HBM.out] at HE2
 cases B2
 ·have HR:Hid (r=(Pt.zero,19)):=by show _=_;rw [HE2.out];simp
  go_wp2_with fail
  exact leaf9 HT3.out rfl Tryz.results82 (n:=.int .i64 19) rfl rfl rfl fun W9 HT9 hsz9 HOFF=>(by rw [HR.out];exact res_err _ HT9.out.b)
 have HE3:Hid (r=if ld≠0∧B3=false then verP (ledP ⟨id,ld,ep,vr,I,T,[],[],mn⟩ H) else verP ⟨id,ld,ep,vr,I,T,[],[],mn⟩):=by show _=_;rw [HE2.out];simp
 clear HE2
 have HT1:=HT3
 clear HT3
 go_wp2_with fail
 refine (G60.out _ HT1.out.b).mono ?_
 rintro e W2 ⟨v',rfl,h1,h2,hb⟩
 have h2':=h2.mono (Y:=fun b=>w.heap.size+2≤b) fun b hx=>Nat.le_trans HT1.out.s hx
 obtain ⟨x1,y1,x2,y2,x3,y3,x4,y4,rfl,q1,q2,q3,q4,ii⟩:=h1.open
 obtain ⟨n1,n2,n3,n4⟩:=h2' _ _ _ _ _ _ _ _ _ rfl
 simp only at q1 q2 q3 q4 n1 n2 n3 n4 ii
 have HT2:=hid (HT1.out.next hb)
 have HGa:=hid (HG3.out.under hb)
 have LN:=hid (And.intro n1 (And.intro n2 (And.intro n3 n4)))
 have LB:Hid (IA w W2 (.slice x1 isr.length y1) isr∧IA w W2 (.slice x2 reps.length y2) reps∧IA w W2 (.slice x3 add.length y3) add∧IA w W2 (.slice x4 rem.length y4) rem):=⟨⟨q1,n1.mono fun b hx=>.inr hx⟩,⟨q2,n2.mono fun b hx=>.inr hx⟩,⟨q3,n3.mono fun b hx=>.inr hx⟩,⟨q4,n4.mono fun b hx=>.inr hx⟩⟩
 have HI:=hid ii
 clear q1 q2 q3 q4 n1 n2 n3 n4 ii h1 h2 h2' hb k0 k1 k2 k3 k4 k5 k6 k7 k8 z0 z1 z2 z3 z4 z5 z6 z7 z8 fx fz
 obtain ⟨k0,k1,k2,k3,k4,k5,k6,k7,k8⟩:=cells9 HT2.out.x
 obtain ⟨z0,z1,z2,z3,z4,z5,z6,z7,z8⟩:=cells9 HT2.out.z
 have fx:=frz_blk HT2.out.x
 have fz:=frz_blk HT2.out.z
 go_upto_region 9 with fail
 have HT3:=hid (nine_x HT2.out rfl (.int .i64 id) (.int .i64 ld) (.int .i64 ep) (.int .i64 vr) (.slice x1 isr.length y1) (.slice x2 reps.length y2) (.slice x3 add.length y3) (.slice x4 rem.length y4) (.int .i64 mn))
 have HG4:=hid (HGa.out.nine (.int .i64 id) (.int .i64 ld) (.int .i64 ep) (.int .i64 vr) (.slice x1 isr.length y1) (.slice x2 reps.length y2) (.slice x3 add.length y3) (.slice x4 rem.length y4) (.int .i64 mn))
 have LA:=hid (And.intro (LB.out.1.nine (.int .i64 id) (.int .i64 ld) (.int .i64 ep) (.int .i64 vr) (.slice x1 isr.length y1) (.slice x2 reps.length y2) (.slice x3 add.length y3) (.slice x4 rem.length y4) (.int .i64 mn)) (And.intro (LB.out.2.1.nine (.int .i64 id) (.int .i64 ld) (.int .i64 ep) (.int .i64 vr) (.slice x1 isr.length y1) (.slice x2 reps.length y2) (.slice x3 add.length y3) (.slice x4 rem.length y4) (.int .i64 mn)) (And.intro (LB.out.2.2.1.nine (.int .i64 id) (.int .i64 ld) (.int .i64 ep) (.int .i64 vr) (.slice x1 isr.length y1) (.slice x2 reps.length y2) (.slice x3 add.length y3) (.slice x4 rem.length y4) (.int .i64 mn)) (LB.out.2.2.2.nine (.int .i64 id) (.int .i64 ld) (.int .i64 ep) (.int .i64 vr) (.slice x1 isr.length y1) (.slice x2 reps.length y2) (.slice x3 add.length y3) (.slice x4 rem.length y4) (.int .i64 mn)))))
 clear k0 k1 k2 k3 k4 k5 k6 k7 k8 z0 z1 z2 z3 z4 z5 z6 z7 z8 fx fz LB HT2 HT1
 generalize (((((((((W2.setCell ⟨w.heap.size,0,none⟩ (.int .i64 id)).setCell ⟨w.heap.size,1,none⟩ (.int .i64 ld)).setCell ⟨w.heap.size,2,none⟩ (.int .i64 ep)).setCell ⟨w.heap.size,3,none⟩ (.int .i64 vr)).setCell ⟨w.heap.size,4,none⟩ (.slice x1 isr.length y1)).setCell ⟨w.heap.size,5,none⟩ (.slice x2 reps.length y2)).setCell ⟨w.heap.size,6,none⟩ (.slice x3 add.length y3)).setCell ⟨w.heap.size,7,none⟩ (.slice x4 rem.length y4)).setCell ⟨w.heap.size,8,none⟩ (.int .i64 mn))=W3 at *
 obtain ⟨k0,k1,k2,k3,k4,k5,k6,k7,k8⟩:=cells9 HT3.out.x
 obtain ⟨z0,z1,z2,z3,z4,z5,z6,z7,z8⟩:=cells9 HT3.out.z
 have fx:=frz_blk HT3.out.x
 have fz:=frz_blk HT3.out.z
 have L:Hid (NW w W3 (.slice x1 isr.length y1) isr∧NW w W3 (.slice x2 reps.length y2) reps∧NW w W3 (.slice x3 add.length y3) add∧NW w W3 (.slice x4 rem.length y4) rem):=⟨⟨LA.out.1.1,LN.out.1⟩,⟨LA.out.2.1.1,LN.out.2.1⟩,⟨LA.out.2.2.1.1,LN.out.2.2.1⟩,⟨LA.out.2.2.2.1,LN.out.2.2.2⟩⟩
 clear LA LN
 go_upto_region 10 with fail
 have HT4:Hid (TwoB w (W3.setCell ⟨w.heap.size,5,none⟩ (.slice ta T.length tc)) (PL id ld ep vr x1 isr y1 ta T tc x3 add y3 x4 rem y4 mn) PZ):=HT3.out.setx 5 (.slice ta T.length tc)
 have L4:Hid (NW w (W3.setCell ⟨w.heap.size,5,none⟩ (.slice ta T.length tc)) (.slice x1 isr.length y1) isr∧NW w (W3.setCell ⟨w.heap.size,5,none⟩ (.slice ta T.length tc)) (.slice ta T.length tc) T∧NW w (W3.setCell ⟨w.heap.size,5,none⟩ (.slice ta T.length tc)) (.slice x3 add.length y3) add∧NW w (W3.setCell ⟨w.heap.size,5,none⟩ (.slice ta T.length tc)) (.slice x4 rem.length y4) rem):=⟨L.out.1.set 5 (.slice ta T.length tc),(HG4.out).set 5 (.slice ta T.length tc),L.out.2.2.1.set 5 (.slice ta T.length tc),L.out.2.2.2.set 5 (.slice ta T.length tc)⟩
 clear HT3 L k0 k1 k2 k3 k4 k5 k6 k7 k8 z0 z1 z2 z3 z4 z5 z6 z7 z8 fx fz
 have HG5:=hid (HG4.out.set 5 (.slice ta T.length tc))
 generalize W3.setCell ⟨w.heap.size,5,none⟩ (.slice ta T.length tc)=W4 at *
 obtain ⟨k0,k1,k2,k3,k4,k5,k6,k7,k8⟩:=cells9 HT4.out.x
 obtain ⟨z0,z1,z2,z3,z4,z5,z6,z7,z8⟩:=cells9 HT4.out.z
 have fx:=frz_blk HT4.out.x
 have fz:=frz_blk HT4.out.z
 go_upto_region 11 with fail
 have HT5:Hid (TwoB w (W4.setCell ⟨w.heap.size,6,none⟩ (.slice none 0 0)) #[.int .i64 id,.int .i64 ld,.int .i64 ep,.int .i64 vr,.slice x1 isr.length y1,.slice ta T.length tc,.slice none 0 0,.slice x4 rem.length y4,.int .i64 mn] PZ):=HT4.out.setx 6 (.slice none 0 0)
 have L5:Hid (NW w (W4.setCell ⟨w.heap.size,6,none⟩ (.slice none 0 0)) (.slice x1 isr.length y1) isr∧NW w (W4.setCell ⟨w.heap.size,6,none⟩ (.slice none 0 0)) (.slice ta T.length tc) T∧NW w (W4.setCell ⟨w.heap.size,6,none⟩ (.slice none 0 0)) (.slice none 0 0) []∧NW w (W4.setCell ⟨w.heap.size,6,none⟩ (.slice none 0 0)) (.slice x4 rem.length y4) rem):=⟨L4.out.1.set 6 (.slice none 0 0),L4.out.2.1.set 6 (.slice none 0 0),(NW.nil w W4).set 6 (.slice none 0 0),L4.out.2.2.2.set 6 (.slice none 0 0)⟩
 clear HT4 L4 k0 k1 k2 k3 k4 k5 k6 k7 k8 z0 z1 z2 z3 z4 z5 z6 z7 z8 fx fz
 have HG6:=hid (HG5.out.set 6 (.slice none 0 0))
 generalize W4.setCell ⟨w.heap.size,6,none⟩ (.slice none 0 0)=W5 at *
 obtain ⟨k0,k1,k2,k3,k4,k5,k6,k7,k8⟩:=cells9 HT5.out.x
 obtain ⟨z0,z1,z2,z3,z4,z5,z6,z7,z8⟩:=cells9 HT5.out.z
 have fx:=frz_blk HT5.out.x
 have fz:=frz_blk HT5.out.z
 go_upto_region 12 with fail
 have HT6:Hid (TwoB w (W5.setCell ⟨w.heap.size,7,none⟩ (.slice none 0 0)) #[.int .i64 id,.int .i64 ld,.int .i64 ep,.int .i64 vr,.slice x1 isr.length y1,.slice ta T.length tc,.slice none 0 0,.slice none 0 0,.int .i64 mn] PZ):=HT5.out.setx 7 (.slice none 0 0)
 have L6:Hid (NW w (W5.setCell ⟨w.heap.size,7,none⟩ (.slice none 0 0)) (.slice x1 isr.length y1) isr∧NW w (W5.setCell ⟨w.heap.size,7,none⟩ (.slice none 0 0)) (.slice ta T.length tc) T∧NW w (W5.setCell ⟨w.heap.size,7,none⟩ (.slice none 0 0)) (.slice none 0 0) []∧NW w (W5.setCell ⟨w.heap.size,7,none⟩ (.slice none 0 0)) (.slice none 0 0) []):=⟨L5.out.1.set 7 (.slice none 0 0),L5.out.2.1.set 7 (.slice none 0 0),L5.out.2.2.1.set 7 (.slice none 0 0),(NW.nil w W5).set 7 (.slice none 0 0)⟩
 clear HT5 L5 k0 k1 k2 k3 k4 k5 k6 k7 k8 z0 z1 z2 z3 z4 z5 z6 z7 z8 fx fz
 have HG7:=hid (HG6.out.set 7 (.slice none 0 0))
 generalize W5.setCell ⟨w.heap.size,7,none⟩ (.slice none 0 0)=W6 at *
 obtain ⟨k0,k1,k2,k3,k4,k5,k6,k7,k8⟩:=cells9 HT6.out.x
 obtain ⟨z0,z1,z2,z3,z4,z5,z6,z7,z8⟩:=cells9 HT6.out.z
 have fx:=frz_blk HT6.out.x
 have fz:=frz_blk HT6.out.z
 go_wp2_with fail
 refine (G43.out _ _ _ _ _ L6.out.1.1 HG7.out.1).mono ?_
 rintro e W7 ⟨ra,rc,rfl,h1,h2,hb⟩
 have HT7:=hid (HT6.out.next hb)
 have L7:Hid (NW w W7 (.slice x1 isr.length y1) isr∧NW w W7 (.slice ta T.length tc) T∧NW w W7 (.slice none 0 0) []∧NW w W7 (.slice none 0 0) []):=⟨L6.out.1.under hb,L6.out.2.1.under hb,L6.out.2.2.1.under hb,L6.out.2.2.2.under hb⟩
 have LR:=hid (nw_new (w:=w) h1 h2 HT6.out.s)
 have HG8:=hid (HG7.out.under hb)
 clear h1 h2 hb HT6 L6 HG4 HG5 HG6 HG7 k0 k1 k2 k3 k4 k5 k6 k7 k8 z0 z1 z2 z3 z4 z5 z6 z7 z8 fx fz
 obtain ⟨k0,k1,k2,k3,k4,k5,k6,k7,k8⟩:=cells9 HT7.out.x
 obtain ⟨z0,z1,z2,z3,z4,z5,z6,z7,z8⟩:=cells9 HT7.out.z
 have fx:=frz_blk HT7.out.x
 have fz:=frz_blk HT7.out.z
 go_upto_region 13 with fail
 have HT8:Hid (TwoB w (W7.setCell ⟨w.heap.size,4,none⟩ (.slice ra I.length rc)) #[.int .i64 id,.int .i64 ld,.int .i64 ep,.int .i64 vr,.slice ra I.length rc,.slice ta T.length tc,.slice none 0 0,.slice none 0 0,.int .i64 mn] PZ):=HT7.out.setx 4 (.slice ra I.length rc)
 have L8:Hid (NW w (W7.setCell ⟨w.heap.size,4,none⟩ (.slice ra I.length rc)) (.slice ra I.length rc) I∧NW w (W7.setCell ⟨w.heap.size,4,none⟩ (.slice ra I.length rc)) (.slice ta T.length tc) T∧NW w (W7.setCell ⟨w.heap.size,4,none⟩ (.slice ra I.length rc)) (.slice none 0 0) []∧NW w (W7.setCell ⟨w.heap.size,4,none⟩ (.slice ra I.length rc)) (.slice none 0 0) []):=⟨(LR.out).set 4 (.slice ra I.length rc),L7.out.2.1.set 4 (.slice ra I.length rc),L7.out.2.2.1.set 4 (.slice ra I.length rc),L7.out.2.2.2.set 4 (.slice ra I.length rc)⟩
 clear HT7 L7 k0 k1 k2 k3 k4 k5 k6 k7 k8 z0 z1 z2 z3 z4 z5 z6 z7 z8 fx fz
 have HG9:=hid (HG8.out.set 4 (.slice ra I.length rc))
 generalize W7.setCell ⟨w.heap.size,4,none⟩ (.slice ra I.length rc)=W8 at *
 obtain ⟨k0,k1,k2,k3,k4,k5,k6,k7,k8⟩:=cells9 HT8.out.x
 obtain ⟨z0,z1,z2,z3,z4,z5,z6,z7,z8⟩:=cells9 HT8.out.z
 have fx:=frz_blk HT8.out.x
 have fz:=frz_blk HT8.out.z
 go_wp2_with fail
 refine (G42.out _ _ _ HG9.out.1).mono ?_
 rintro e W9 ⟨rfl,rfl⟩
 have hIH:=HIH.out _ _ _ HG9.out.1
 clear LR HG8
 have c0:Hid True:=trivial
 by_cases h0:ld=0
 ·have c2:(ld != 0)=false:=by simp [h0]
  have HR:Hid (r=verP ⟨id,ld,ep,vr,I,T,[],[],mn⟩):=by show _=_;rw [HE3.out,if_neg (fun e=>e.1 h0)]
  clear h0
  have GC:=hid (rchanged_any (X:=fun b=>w.heap.size+2≤b) (w:=W8) (v:=.agg #[.int .i64 id,.int .i64 ld,.int .i64 ep,.int .i64 vr,.slice ra I.length rc,.slice ta T.length tc,.slice none 0 0,.slice none 0 0,.int .i64 mn]) (p:=⟨id,ld,ep,vr,I,T,[],[],mn⟩) ⟨_,_,_,_,rfl,L8.out.1.1,L8.out.2.1.1,L8.out.2.2.1.1,L8.out.2.2.2.1,HI.out⟩ (inP_of L8.out.1.2 L8.out.2.1.2 L8.out.2.2.1.2 L8.out.2.2.2.2) hvr)
  generalize verP ⟨id,ld,ep,vr,I,T,[],[],mn⟩=r2 at *
  obtain ⟨⟨rid,rld,rep,rvr,rl1,rl2,rl3,rl4,rmn⟩,re⟩:=r2
  go_wp2_with fail
  refine GC.out.mono ?_
  rintro e W7 ⟨v',rfl,h1,h2,hb⟩
  obtain ⟨g1,j1,g2,j2,g3,j3,g4,j4,rfl,q1,q2,q3,q4,ii⟩:=h1.open
  obtain ⟨n1,n2,n3,n4⟩:=h2 _ _ _ _ _ _ _ _ _ rfl
  simp only at q1 q2 q3 q4 n1 n2 n3 n4 ii
  have HT7:=hid (HT8.out.next hb)
  have HL:Hid (IA w W7 (.slice g1 rl1.length j1) rl1∧IA w W7 (.slice g2 rl2.length j2) rl2∧IA w W7 (.slice g3 rl3.length j3) rl3∧IA w W7 (.slice g4 rl4.length j4) rl4):=⟨⟨q1,n1.mono fun b hx=>.inr hx⟩,⟨q2,n2.mono fun b hx=>.inr hx⟩,⟨q3,n3.mono fun b hx=>.inr hx⟩,⟨q4,n4.mono fun b hx=>.inr hx⟩⟩
  have HN:Hid (InP (fun b=>w.heap.size≤b) (.agg (PL rid rld rep rvr g1 rl1 j1 g2 rl2 j2 g3 rl3 j3 g4 rl4 j4 rmn)) ⟨rid,rld,rep,rvr,rl1,rl2,rl3,rl4,rmn⟩):=h2.mono fun b hx=>by omega
  have HI2:=hid ii
  clear q1 q2 q3 q4 n1 n2 n3 n4 ii h1 h2 hb k0 k1 k2 k3 k4 k5 k6 k7 k8 z0 z1 z2 z3 z4 z5 z6 z7 z8 fx fz
  obtain ⟨k0,k1,k2,k3,k4,k5,k6,k7,k8⟩:=cells9 HT7.out.x
  obtain ⟨z0,z1,z2,z3,z4,z5,z6,z7,z8⟩:=cells9 HT7.out.z
  have fx:=frz_blk HT7.out.x
  have fz:=frz_blk HT7.out.z
  go_wp2_with fail
  exact leaf9 HT7.out rfl Tryz.results82 (n:=.int .i64 re) rfl rfl rfl fun W9 HT9 hsz9 HOFF=>(by rw [HR.out];exact ⟨_,rfl,⟨_,_,_,_,rfl,HL.out.1.offz HOFF.out hsz9,HL.out.2.1.offz HOFF.out hsz9,HL.out.2.2.1.offz HOFF.out hsz9,HL.out.2.2.2.offz HOFF.out hsz9,HI2.out⟩,HN.out,HT9.out.b⟩)
 have c2:(ld != 0)=true:=by simp [h0]
 cases B3
 case true =>
  have HR:Hid (r=verP ⟨id,ld,ep,vr,I,T,[],[],mn⟩):=by show _=_;rw [HE3.out,if_neg (fun e=>by cases e.2)]
  clear h0
  have GC:=hid (rchanged_any (X:=fun b=>w.heap.size+2≤b) (w:=W8) (v:=.agg #[.int .i64 id,.int .i64 ld,.int .i64 ep,.int .i64 vr,.slice ra I.length rc,.slice ta T.length tc,.slice none 0 0,.slice none 0 0,.int .i64 mn]) (p:=⟨id,ld,ep,vr,I,T,[],[],mn⟩) ⟨_,_,_,_,rfl,L8.out.1.1,L8.out.2.1.1,L8.out.2.2.1.1,L8.out.2.2.2.1,HI.out⟩ (inP_of L8.out.1.2 L8.out.2.1.2 L8.out.2.2.1.2 L8.out.2.2.2.2) hvr)
  generalize verP ⟨id,ld,ep,vr,I,T,[],[],mn⟩=r2 at *
  obtain ⟨⟨rid,rld,rep,rvr,rl1,rl2,rl3,rl4,rmn⟩,re⟩:=r2
  go_wp2_with fail
  refine GC.out.mono ?_
  rintro e W7 ⟨v',rfl,h1,h2,hb⟩
  obtain ⟨g1,j1,g2,j2,g3,j3,g4,j4,rfl,q1,q2,q3,q4,ii⟩:=h1.open
  obtain ⟨n1,n2,n3,n4⟩:=h2 _ _ _ _ _ _ _ _ _ rfl
  simp only at q1 q2 q3 q4 n1 n2 n3 n4 ii
  have HT7:=hid (HT8.out.next hb)
  have HL:Hid (IA w W7 (.slice g1 rl1.length j1) rl1∧IA w W7 (.slice g2 rl2.length j2) rl2∧IA w W7 (.slice g3 rl3.length j3) rl3∧IA w W7 (.slice g4 rl4.length j4) rl4):=⟨⟨q1,n1.mono fun b hx=>.inr hx⟩,⟨q2,n2.mono fun b hx=>.inr hx⟩,⟨q3,n3.mono fun b hx=>.inr hx⟩,⟨q4,n4.mono fun b hx=>.inr hx⟩⟩
  have HN:Hid (InP (fun b=>w.heap.size≤b) (.agg (PL rid rld rep rvr g1 rl1 j1 g2 rl2 j2 g3 rl3 j3 g4 rl4 j4 rmn)) ⟨rid,rld,rep,rvr,rl1,rl2,rl3,rl4,rmn⟩):=h2.mono fun b hx=>by omega
  have HI2:=hid ii
  clear q1 q2 q3 q4 n1 n2 n3 n4 ii h1 h2 hb k0 k1 k2 k3 k4 k5 k6 k7 k8 z0 z1 z2 z3 z4 z5 z6 z7 z8 fx fz
  obtain ⟨k0,k1,k2,k3,k4,k5,k6,k7,k8⟩:=cells9 HT7.out.x
  obtain ⟨z0,z1,z2,z3,z4,z5,z6,z7,z8⟩:=cells9 HT7.out.z
  have fx:=frz_blk HT7.out.x
  have fz:=frz_blk HT7.out.z
  go_wp2_with fail
  exact leaf9 HT7.out rfl Tryz.results82 (n:=.int .i64 re) rfl rfl rfl fun W9 HT9 hsz9 HOFF=>(by rw [HR.out];exact ⟨_,rfl,⟨_,_,_,_,rfl,HL.out.1.offz HOFF.out hsz9,HL.out.2.1.offz HOFF.out hsz9,HL.out.2.2.1.offz HOFF.out hsz9,HL.out.2.2.2.offz HOFF.out hsz9,HI2.out⟩,HN.out,HT9.out.b⟩)
 case false =>
  have HR:Hid (r=verP (ledP ⟨id,ld,ep,vr,I,T,[],[],mn⟩ H)):=by show _=_;rw [HE3.out,if_pos ⟨h0,rfl⟩]
  clear h0 HE3
  have HKV:=hid (led_ver0 ⟨id,ld,ep,vr,I,T,[],[],mn⟩ H)
  generalize hK:ledP ⟨id,ld,ep,vr,I,T,[],[],mn⟩ H=K at *
  have HK:=hid hK
  obtain ⟨kid,kld,kep,kvr,kl1,kl2,kl3,kl4,kmn⟩:=K
  have HKV2:Hid (1≤kvr∧kvr≤1000000000):=by show _∧_;have e:kvr=vr:=HKV.out;rw [e];exact hvr
  clear hK HKV
  have G64v:Hid (∀ V,Below W8.heap.size W8 V→Calls Tryz.prog 133 #[.slice ta T.length tc,.slice ra I.length rc,.slice ua up.length uc,.int .i64 0] V fun e w'=>e=.returned (.int .i64 H)∧V=w'):=fun V hb=>G64.out V _ _ _ _ (HT8.out.b.trans (hb.mono HT8.out.b.size)) (L8.out.2.1.under hb).1 (L8.out.1.under hb).1
  have G62:Hid (∀ V,Below W8.heap.size W8 V→Calls Tryz.prog 127 #[.agg #[.int .i64 id,.int .i64 ld,.int .i64 ep,.int .i64 vr,.slice ra I.length rc,.slice ta T.length tc,.slice none 0 0,.slice none 0 0,.int .i64 mn],.int .i64 H] V fun e w'=>∃ s1 m1 s2 m2 s3 m3 s4 m4,e=.returned (.agg (PL kid kld kep kvr s1 kl1 m1 s2 kl2 m2 s3 kl3 m3 s4 kl4 m4 kmn))∧Hid (NW w w' (.slice s1 kl1.length m1) kl1∧NW w w' (.slice s2 kl2.length m2) kl2∧NW w w' (.slice s3 kl3.length m3) kl3∧NW w w' (.slice s4 kl4.length m4) kl4)∧Hid (I64 kid∧I64 kld∧I64 kep∧I64 kvr∧I64 kmn)∧Below W8.heap.size W8 w'):=fun V hb=>(rleads_sl (w:=w) (W:=V) (v:=.agg #[.int .i64 id,.int .i64 ld,.int .i64 ep,.int .i64 vr,.slice ra I.length rc,.slice ta T.length tc,.slice none 0 0,.slice none 0 0,.int .i64 mn]) (p:=⟨id,ld,ep,vr,I,T,[],[],mn⟩) ⟨_,_,_,_,rfl,(L8.out.1.under hb).1,(L8.out.2.1.under hb).1,(L8.out.2.2.1.under hb).1,(L8.out.2.2.2.under hb).1,HI.out⟩ (inP_of L8.out.1.2 L8.out.2.1.2 L8.out.2.2.1.2 L8.out.2.2.2.2) H hIH hep HK.out).mono fun e w' ⟨s1,m1,s2,m2,s3,m3,s4,m4,e1,e2,e3,e4⟩=>⟨s1,m1,s2,m2,s3,m3,s4,m4,e1,e2,e3,hb.trans (e4.mono hb.size)⟩
  clear G64
  go_upto_region 15 with fail
  go_cut [] from 59 to 66 (fun W=>∃ s1 m1 s2 m2 s3 m3 s4 m4,Hid (TwoB w W (PL kid kld kep kvr s1 kl1 m1 s2 kl2 m2 s3 kl3 m3 s4 kl4 m4 kmn) PZ)∧Hid (NW w W (.slice s1 kl1.length m1) kl1∧NW w W (.slice s2 kl2.length m2) kl2∧NW w W (.slice s3 kl3.length m3) kl3∧NW w W (.slice s4 kl4.length m4) kl4)∧Hid (I64 kid∧I64 kld∧I64 kep∧I64 kvr∧I64 kmn))
  case first =>
   have HS:Hid (Below W8.heap.size W8 W8.drew):=(Below.refl _ _).drew
   refine region_last (fun V=>Hid (Below W8.heap.size W8 V)) 7 (by kernel_rfl) ?_
   refine ButLast.take 0 (.agg #[.int .i64 id,.int .i64 ld,.int .i64 ep,.int .i64 vr,.slice ra I.length rc,.slice ta T.length tc,.slice none 0 0,.slice none 0 0,.int .i64 mn]) [6] rfl (by kernel_rfl) (by kernel_rfl) (by kernel_rfl) (by kernel_rfl) (by kernel_rfl) (fun _ _ _ h=>h) (Or.inl ⟨by rfl,fun V hV=>by have T:=HT8.out.next hV.out;have k0:=cell_blk T.x 0 _ rfl;have k1:=cell_blk T.x 1 _ rfl;have k2:=cell_blk T.x 2 _ rfl;have k3:=cell_blk T.x 3 _ rfl;have k4:=cell_blk T.x 4 _ rfl;have k5:=cell_blk T.x 5 _ rfl;have k6:=cell_blk T.x 6 _ rfl;have k7:=cell_blk T.x 7 _ rfl;have k8:=cell_blk T.x 8 _ rfl;go_simp⟩) HS ?_
   simp only [Act.put,List.setIfInBounds_toArray,List.set_cons_zero,List.set_cons_succ]
   refine ButLast.take 1 (.slice ta T.length tc) [6,5] rfl (by kernel_rfl) (by kernel_rfl) (by kernel_rfl) (by kernel_rfl) (by kernel_rfl) (fun _ _ _ h=>h) (Or.inl ⟨by rfl,fun V hV=>by go_simp⟩) HS ?_
   simp only [Act.put,List.setIfInBounds_toArray,List.set_cons_zero,List.set_cons_succ]
   refine ButLast.take 2 (.pointer (some ⟨w.heap.size,4,none⟩)) [6,5,3] rfl (by kernel_rfl) (by kernel_rfl) (by kernel_rfl) (by kernel_rfl) (by kernel_rfl) (fun _ _ _ h=>h) (Or.inl ⟨by rfl,fun V hV=>by go_simp⟩) HS ?_
   simp only [Act.put,List.setIfInBounds_toArray,List.set_cons_zero,List.set_cons_succ]
   refine ButLast.take 3 (.slice ra I.length rc) [6,5] rfl (by kernel_rfl) (by kernel_rfl) (by kernel_rfl) (by kernel_rfl) (by kernel_rfl) (fun _ _ _ h=>h) (Or.inl ⟨by rfl,fun V hV=>by have T:=HT8.out.next hV.out;have k4:=cell_blk T.x 4 _ rfl;go_simp⟩) HS ?_
   simp only [Act.put,List.setIfInBounds_toArray,List.set_cons_zero,List.set_cons_succ]
   refine ButLast.take 4 (.slice ua up.length uc) [6,5] rfl (by kernel_rfl) (by kernel_rfl) (by kernel_rfl) (by kernel_rfl) (by kernel_rfl) (fun _ _ _ h=>h) (Or.inl ⟨by rfl,fun V hV=>by go_simp⟩) HS ?_
   simp only [Act.put,List.setIfInBounds_toArray,List.set_cons_zero,List.set_cons_succ]
   refine ButLast.one 5 (by kernel_rfl) rfl (fun K hK=>?_)
   refine step_go 133 _ _ rfl rfl #[.slice ta T.length tc,.slice ra I.length rc,.slice ua up.length uc,.int .i64 0] (by simp [Act.eval]) (by simp [go_sem]) (G64v.out _ HS.out) ?_
   rintro e W9 ⟨rfl,rfl⟩
   refine ⟨_,rfl,?_⟩
   refine hK.out _ _ (fun _=>HS) ?_
   clear hK K
   simp only [Act.put,List.setIfInBounds_toArray,List.set_cons_zero,List.set_cons_succ]
   refine ButLast.one 6 (by kernel_rfl) rfl (fun K hK=>?_)
   refine step_go 127 _ _ rfl rfl #[.agg #[.int .i64 id,.int .i64 ld,.int .i64 ep,.int .i64 vr,.slice ra I.length rc,.slice ta T.length tc,.slice none 0 0,.slice none 0 0,.int .i64 mn],.int .i64 H] (by simp [Act.eval]) (by simp [go_sem]) (G62.out _ HS.out) ?_
   rintro e W8b ⟨s1,m1,s2,m2,s3,m3,s4,m4,rfl,L8b,HI8,hb⟩
   have HT8b:=hid (HT8.out.next hb)
   refine ⟨_,rfl,?_⟩
   refine hK.out _ _ (fun _=>hid hb) ?_
   clear hK K hb k0 k1 k2 k3 k4 k5 k6 k7 k8 z0 z1 z2 z3 z4 z5 z6 z7 z8 fx fz
   simp only [Act.put,List.setIfInBounds_toArray,List.set_cons_zero,List.set_cons_succ]
   obtain ⟨k0,k1,k2,k3,k4,k5,k6,k7,k8⟩:=cells9 HT8b.out.x
   obtain ⟨z0,z1,z2,z3,z4,z5,z6,z7,z8⟩:=cells9 HT8b.out.z
   have fx:=frz_blk HT8b.out.x
   have fz:=frz_blk HT8b.out.z
   refine ButLast.one 7 (by kernel_rfl) rfl (fun K hK=>?_)
   go_simp
   have HT9:=hid (nine_x HT8b.out rfl (.int .i64 kid) (.int .i64 kld) (.int .i64 kep) (.int .i64 kvr) (.slice s1 kl1.length m1) (.slice s2 kl2.length m2) (.slice s3 kl3.length m3) (.slice s4 kl4.length m4) (.int .i64 kmn))
   have L9:Hid (NW w ((((((((((W8b.setCell ⟨w.heap.size,0,none⟩ (.int .i64 kid)).setCell ⟨w.heap.size,1,none⟩ (.int .i64 kld)).setCell ⟨w.heap.size,2,none⟩ (.int .i64 kep)).setCell ⟨w.heap.size,3,none⟩ (.int .i64 kvr)).setCell ⟨w.heap.size,4,none⟩ (.slice s1 kl1.length m1)).setCell ⟨w.heap.size,5,none⟩ (.slice s2 kl2.length m2)).setCell ⟨w.heap.size,6,none⟩ (.slice s3 kl3.length m3)).setCell ⟨w.heap.size,7,none⟩ (.slice s4 kl4.length m4)).setCell ⟨w.heap.size,8,none⟩ (.int .i64 kmn))) (.slice s1 kl1.length m1) kl1∧NW w ((((((((((W8b.setCell ⟨w.heap.size,0,none⟩ (.int .i64 kid)).setCell ⟨w.heap.size,1,none⟩ (.int .i64 kld)).setCell ⟨w.heap.size,2,none⟩ (.int .i64 kep)).setCell ⟨w.heap.size,3,none⟩ (.int .i64 kvr)).setCell ⟨w.heap.size,4,none⟩ (.slice s1 kl1.length m1)).setCell ⟨w.heap.size,5,none⟩ (.slice s2 kl2.length m2)).setCell ⟨w.heap.size,6,none⟩ (.slice s3 kl3.length m3)).setCell ⟨w.heap.size,7,none⟩ (.slice s4 kl4.length m4)).setCell ⟨w.heap.size,8,none⟩ (.int .i64 kmn))) (.slice s2 kl2.length m2) kl2∧NW w ((((((((((W8b.setCell ⟨w.heap.size,0,none⟩ (.int .i64 kid)).setCell ⟨w.heap.size,1,none⟩ (.int .i64 kld)).setCell ⟨w.heap.size,2,none⟩ (.int .i64 kep)).setCell ⟨w.heap.size,3,none⟩ (.int .i64 kvr)).setCell ⟨w.heap.size,4,none⟩ (.slice s1 kl1.length m1)).setCell ⟨w.heap.size,5,none⟩ (.slice s2 kl2.length m2)).setCell ⟨w.heap.size,6,none⟩ (.slice s3 kl3.length m3)).setCell ⟨w.heap.size,7,none⟩ (.slice s4 kl4.length m4)).setCell ⟨w.heap.size,8,none⟩ (.int .i64 kmn))) (.slice s3 kl3.length m3) kl3∧NW w ((((((((((W8b.setCell ⟨w.heap.size,0,none⟩ (.int .i64 kid)).setCell ⟨w.heap.size,1,none⟩ (.int .i64 kld)).setCell ⟨w.heap.size,2,none⟩ (.int .i64 kep)).setCell ⟨w.heap.size,3,none⟩ (.int .i64 kvr)).setCell ⟨w.heap.size,4,none⟩ (.slice s1 kl1.length m1)).setCell ⟨w.heap.size,5,none⟩ (.slice s2 kl2.length m2)).setCell ⟨w.heap.size,6,none⟩ (.slice s3 kl3.length m3)).setCell ⟨w.heap.size,7,none⟩ (.slice s4 kl4.length m4)).setCell ⟨w.heap.size,8,none⟩ (.int .i64 kmn))) (.slice s4 kl4.length m4) kl4):=⟨L8b.out.1.nine (.int .i64 kid) (.int .i64 kld) (.int .i64 kep) (.int .i64 kvr) (.slice s1 kl1.length m1) (.slice s2 kl2.length m2) (.slice s3 kl3.length m3) (.slice s4 kl4.length m4) (.int .i64 kmn),L8b.out.2.1.nine (.int .i64 kid) (.int .i64 kld) (.int .i64 kep) (.int .i64 kvr) (.slice s1 kl1.length m1) (.slice s2 kl2.length m2) (.slice s3 kl3.length m3) (.slice s4 kl4.length m4) (.int .i64 kmn),L8b.out.2.2.1.nine (.int .i64 kid) (.int .i64 kld) (.int .i64 kep) (.int .i64 kvr) (.slice s1 kl1.length m1) (.slice s2 kl2.length m2) (.slice s3 kl3.length m3) (.slice s4 kl4.length m4) (.int .i64 kmn),L8b.out.2.2.2.nine (.int .i64 kid) (.int .i64 kld) (.int .i64 kep) (.int .i64 kvr) (.slice s1 kl1.length m1) (.slice s2 kl2.length m2) (.slice s3 kl3.length m3) (.slice s4 kl4.length m4) (.int .i64 kmn)⟩
   clear k0 k1 k2 k3 k4 k5 k6 k7 k8 z0 z1 z2 z3 z4 z5 z6 z7 z8 fx fz L8b HT8b
   generalize (((((((((W8b.setCell ⟨w.heap.size,0,none⟩ (.int .i64 kid)).setCell ⟨w.heap.size,1,none⟩ (.int .i64 kld)).setCell ⟨w.heap.size,2,none⟩ (.int .i64 kep)).setCell ⟨w.heap.size,3,none⟩ (.int .i64 kvr)).setCell ⟨w.heap.size,4,none⟩ (.slice s1 kl1.length m1)).setCell ⟨w.heap.size,5,none⟩ (.slice s2 kl2.length m2)).setCell ⟨w.heap.size,6,none⟩ (.slice s3 kl3.length m3)).setCell ⟨w.heap.size,7,none⟩ (.slice s4 kl4.length m4)).setCell ⟨w.heap.size,8,none⟩ (.int .i64 kmn))=W9 at *
   refine hK.out _ _ (fun h=>absurd rfl h) (ButLast.done (by kernel_rfl) ?_)
   clear hK
   go_wp2_with fail
   go_meet
   case rel=>exact ⟨s1,m1,s2,m2,s3,m3,s4,m4,HT9,L9,HI8⟩
  case rest =>
   obtain ⟨s1,m1,s2,m2,s3,m3,s4,m4,HT7,L7,HI7⟩:=hcut
   generalize wc=W7 at *
   clear k0 k1 k2 k3 k4 k5 k6 k7 k8 z0 z1 z2 z3 z4 z5 z6 z7 z8 fx fz
   obtain ⟨k0,k1,k2,k3,k4,k5,k6,k7,k8⟩:=cells9 HT7.out.x
   obtain ⟨z0,z1,z2,z3,z4,z5,z6,z7,z8⟩:=cells9 HT7.out.z
   have fx:=frz_blk HT7.out.x
   have fz:=frz_blk HT7.out.z
   have GC:=hid (rchanged_any (X:=fun b=>w.heap.size+2≤b) (w:=W7) (v:=.agg (PL kid kld kep kvr s1 kl1 m1 s2 kl2 m2 s3 kl3 m3 s4 kl4 m4 kmn)) (p:=⟨kid,kld,kep,kvr,kl1,kl2,kl3,kl4,kmn⟩) ⟨_,_,_,_,rfl,L7.out.1.1,L7.out.2.1.1,L7.out.2.2.1.1,L7.out.2.2.2.1,HI7.out⟩ (inP_of L7.out.1.2 L7.out.2.1.2 L7.out.2.2.1.2 L7.out.2.2.2.2) HKV2.out)
   generalize verP ⟨kid,kld,kep,kvr,kl1,kl2,kl3,kl4,kmn⟩=r2 at *
   obtain ⟨⟨rid,rld,rep,rvr,rl1,rl2,rl3,rl4,rmn⟩,re⟩:=r2
   go_wp2_with fail
   refine GC.out.mono ?_
   rintro e W8 ⟨v',rfl,h1,h2,hb⟩
   obtain ⟨g1,j1,g2,j2,g3,j3,g4,j4,rfl,q1,q2,q3,q4,ii⟩:=h1.open
   obtain ⟨n1,n2,n3,n4⟩:=h2 _ _ _ _ _ _ _ _ _ rfl
   simp only at q1 q2 q3 q4 n1 n2 n3 n4 ii
   have HT8:=hid (HT7.out.next hb)
   have HL:Hid (IA w W8 (.slice g1 rl1.length j1) rl1∧IA w W8 (.slice g2 rl2.length j2) rl2∧IA w W8 (.slice g3 rl3.length j3) rl3∧IA w W8 (.slice g4 rl4.length j4) rl4):=⟨⟨q1,n1.mono fun b hx=>.inr hx⟩,⟨q2,n2.mono fun b hx=>.inr hx⟩,⟨q3,n3.mono fun b hx=>.inr hx⟩,⟨q4,n4.mono fun b hx=>.inr hx⟩⟩
   have HN:Hid (InP (fun b=>w.heap.size≤b) (.agg (PL rid rld rep rvr g1 rl1 j1 g2 rl2 j2 g3 rl3 j3 g4 rl4 j4 rmn)) ⟨rid,rld,rep,rvr,rl1,rl2,rl3,rl4,rmn⟩):=h2.mono fun b hx=>by omega
   have HI2:=hid ii
   clear q1 q2 q3 q4 n1 n2 n3 n4 ii h1 h2 hb k0 k1 k2 k3 k4 k5 k6 k7 k8 z0 z1 z2 z3 z4 z5 z6 z7 z8 fx fz
   obtain ⟨k0,k1,k2,k3,k4,k5,k6,k7,k8⟩:=cells9 HT8.out.x
   obtain ⟨z0,z1,z2,z3,z4,z5,z6,z7,z8⟩:=cells9 HT8.out.z
   have fx:=frz_blk HT8.out.x
   have fz:=frz_blk HT8.out.z
   go_wp2_with fail
   exact leaf9 HT8.out rfl Tryz.results82 (n:=.int .i64 re) rfl rfl rfl fun W9 HT9 hsz9 HOFF=>(by rw [HR.out];exact ⟨_,rfl,⟨_,_,_,_,rfl,HL.out.1.offz HOFF.out hsz9,HL.out.2.1.offz HOFF.out hsz9,HL.out.2.2.1.offz HOFF.out hsz9,HL.out.2.2.2.offz HOFF.out hsz9,HI2.out⟩,HN.out,HT9.out.b⟩)
end Go.Proofs.YtcffomhcmilcpaaGreat
