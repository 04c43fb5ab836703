/- cancel: the document's. -/
import Derived.Test.YtcffomhcmilcpaaGreatC28
set_option maxRecDepth 100000
set_option maxHeartbeats 20000000
set_option linter.unusedVariables false
set_option linter.unusedSimpArgs false
namespace Go.Proofs.YtcffomhcmilcpaaGreat
open Go.RowKit Go.Maps
theorem rcancel_any {w:World} {v u:Value} {p:Pt} {up:List Int} (h:PartM w v p) (hu:IL w u up) :
  Calls Tryz.prog 81 #[v,u] w fun e w'=>Res (fun b=>w.heap.size≤b) w (cancelP p up) e w':=by
 obtain ⟨id,ld,ep,vr,isr,reps,add,rem,mn⟩:=p
 obtain ⟨a1,c1,a2,c2,a3,c3,a4,c4,rfl,q1,q2,q3,q4,i0,i1,i2,i3,i4⟩:=h.open
 simp only at q1 q2 q3 q4 i0 i1 i2 i3 i4 ⊢
 have Q1:=hid q1
 have Q2:=hid q2
 have Q3:=hid q3
 have Q4:=hid q4
 clear h q1 q2 q3 q4
 obtain ⟨ua,uc,rfl,_⟩:=hu.shape
 have QU:=hid hu
 have HT0:=hid (two_new w (PL id ld ep vr a1 isr c1 a2 reps c2 a3 add c3 a4 rem c4 mn) PZ)
 have G13:Hid (∀ W,Below w.heap.size w W→Calls Tryz.prog 106 #[.agg (PL id ld ep vr a1 isr c1 a2 reps c2 a3 add c3 a4 rem c4 mn)] W fun e w'=>e=.returned (.bool (rightB ⟨id,ld,ep,vr,isr,reps,add,rem,mn⟩))∧Below W.heap.size W w'):=fun W hb=>rright_any ⟨_,_,_,_,rfl,Q1.out.under hb,Q2.out.under hb,Q3.out.under hb,Q4.out.under hb,i0,i1,i2,i3,i4⟩
 have G60:Hid (∀ W,Below w.heap.size w W→Calls Tryz.prog 125 #[.agg (PL id ld ep vr a1 isr c1 a2 reps c2 a3 add c3 a4 rem c4 mn)] W fun e w'=>∃ v',e=.returned v'∧PartM w' v' ⟨id,ld,ep,vr,isr,reps,add,rem,mn⟩∧InP (fun b=>W.heap.size≤b) v' ⟨id,ld,ep,vr,isr,reps,add,rem,mn⟩∧Below W.heap.size W w'):=fun W hb=>rclone_any ⟨_,_,_,_,rfl,Q1.out.under hb,Q2.out.under hb,Q3.out.under hb,Q4.out.under hb,i0,i1,i2,i3,i4⟩
 have HE0:Hid (rightB ⟨id,ld,ep,vr,isr,reps,add,rem,mn⟩=false→cancelP ⟨id,ld,ep,vr,isr,reps,add,rem,mn⟩ up=(Pt.zero,1)):=fun e=>by unfold cancelP;rw [e];rfl
 have HE:Hid (rightB ⟨id,ld,ep,vr,isr,reps,add,rem,mn⟩=true→cancelP ⟨id,ld,ep,vr,isr,reps,add,rem,mn⟩ up=if !movingB ⟨id,ld,ep,vr,isr,reps,add,rem,mn⟩ || isr.all (hasB add) then (Pt.zero,19) else if ld≠0∧hasB add ld=true then verP (ledP ⟨id,ld,ep,vr,(outL isr add),(outL reps add),[],[],mn⟩ (headL (docL (outL reps add) (outL isr add) up ld))) else verP ⟨id,ld,ep,vr,(outL isr add),(outL reps add),[],[],mn⟩):=fun h1=>cancel_doc (rightB_iff.1 h1) up
 have HBD:Hid (rightB ⟨id,ld,ep,vr,isr,reps,add,rem,mn⟩=true→(1≤ep∧ep≤1000000000)∧(1≤vr∧vr≤1000000000)):=fun e=>⟨(rightB_iff.1 e).epoch,(rightB_iff.1 e).ver⟩
 have HM:Hid (movingB ⟨id,ld,ep,vr,isr,reps,add,rem,mn⟩=decide (0<add.length+rem.length)):=moving_doc _
 have hw1:IntKind.i64.wrap ((add.length:Int)+(rem.length:Int))=(add.length:Int)+(rem.length:Int):=by
  have:=Q3.out.few
  have:=Q4.out.few
  have h1:-9223372036854775808≤(add.length:Int)+(rem.length:Int):=by omega
  have h2:(add.length:Int)+(rem.length:Int)≤9223372036854775807:=by omega
  exact IntWalk.i64_in _ ⟨h1,h2⟩
 have HIL:Hid (I64 ld):=i1
 have G41:Hid (∀ W,Below w.heap.size w W→Calls Tryz.prog 129 #[.slice a1 isr.length c1,.slice a3 add.length c3] W fun e w'=>e=.returned (.bool (isr.all (hasB add)))∧Below W.heap.size W w'):=fun W hb=>rpart_any (Q1.out.under hb) (Q3.out.under hb)
 have G63:Hid (∀ W x2 y2 x3 y3,IL W (.slice x2 reps.length y2) reps→IL W (.slice x3 add.length y3) add→Calls Tryz.prog 130 #[.slice x2 reps.length y2,.slice x3 add.length y3] W fun e w'=>∃ ra rc,e=.returned (.slice ra (outL reps add).length rc)∧IL w' (.slice ra (outL reps add).length rc) (outL reps add)∧In (fun b=>W.heap.size≤b) (.slice ra (outL reps add).length rc) (outL reps add)∧Below W.heap.size W w'):=fun W x2 y2 x3 y3 h1 h2=>rout_sl h1 h2
 have G63b:Hid (∀ W x1 y1 x3 y3,IL W (.slice x1 isr.length y1) isr→IL W (.slice x3 add.length y3) add→Calls Tryz.prog 130 #[.slice x1 isr.length y1,.slice x3 add.length y3] W fun e w'=>∃ ra rc,e=.returned (.slice ra (outL isr add).length rc)∧IL w' (.slice ra (outL isr add).length rc) (outL isr add)∧In (fun b=>W.heap.size≤b) (.slice ra (outL isr add).length rc) (outL isr add)∧Below W.heap.size W w'):=fun W x1 y1 x3 y3 h1 h2=>rout_sl h1 h2
 have G42:Hid (∀ W x3 y3,IL W (.slice x3 add.length y3) add→Calls Tryz.prog 83 #[.slice x3 add.length y3,.int .i64 ld] W fun e w'=>e=.returned (.bool (hasB add ld))∧W=w'):=fun W x3 y3 h1=>rhas_any h1 ld HIL.out
 have HIH:Hid (∀ W ta tc,IL W (.slice ta (outL reps add).length tc) (outL reps add)→I64 (headL (docL (outL reps add) (outL isr add) up ld))):=fun W ta tc h1=>doc_i64 h1 _ _ _
 have G64:Hid (∀ W ta tc ra rc,Below w.heap.size w W→IL W (.slice ta (outL reps add).length tc) (outL reps add)→IL W (.slice ra (outL isr add).length rc) (outL isr add)→Calls Tryz.prog 133 #[.slice ta (outL reps add).length tc,.slice ra (outL isr add).length rc,.slice ua up.length uc,.int .i64 ld] W fun e w'=>e=.returned (.int .i64 (headL (docL (outL reps add) (outL isr add) up ld)))∧W=w'):=fun W ta tc ra rc hb h1 h2=>(rfirst_any h1 h2 (QU.out.under hb) ld HIL.out).mono fun e w' ⟨e1,e2,e3⟩=>⟨e1,e3⟩
 generalize cancelP ⟨id,ld,ep,vr,isr,reps,add,rem,mn⟩ up=r at *
 generalize rightB ⟨id,ld,ep,vr,isr,reps,add,rem,mn⟩=B1 at *
 generalize movingB ⟨id,ld,ep,vr,isr,reps,add,rem,mn⟩=BM at *
 generalize isr.all (hasB add)=B2 at *
 generalize headL (docL (outL reps add) (outL isr add) up ld)=H at *
 generalize hasB add ld=B3 at *
 generalize (outL isr add)=I at *
 generalize (outL reps add)=T at *
 clear i0 i1 i2 i3 i4 Q1 Q2 Q3 Q4 QU hu
 go_enter Tryz.func81,Tryz.ntmps81
 go_wp2_with fail
 generalize (w.alloc (.cells (PL id ld ep vr a1 isr c1 a2 reps c2 a3 add c3 a4 rem c4 mn) 54)).alloc (.cells PZ 54)=W0 at *
 refine (G13.out _ HT0.out.b).mono ?_
 rintro e W1 ⟨rfl,hb⟩
 have HT1:=hid (HT0.out.next hb)
 clear hb
 obtain ⟨k0,k1,k2,k3,k4,k5,k6,k7,k8⟩:=cells9 HT1.out.x
 obtain ⟨z0,z1,z2,z3,z4,z5,z6,z7,z8⟩:=cells9 HT1.out.z
 have fx:=frz_blk HT1.out.x
 have fz:=frz_blk HT1.out.z
 cases B1
 ·have HR:Hid (r=(Pt.zero,1)):=HE0.out rfl
  go_wp2_with fail
  exact leaf9 HT1.out rfl Tryz.results81 (n:=.int .i64 1) rfl rfl rfl fun W9 HT9 hsz9 HOFF=>(by rw [HR.out];exact res_err _ HT9.out.b)
 obtain ⟨hep,hvr⟩:=HBD.out rfl
 have HE2:=hid (HE.out rfl)
 clear HE HE0 HBD
 go_wp2_with fail
 refine (G41.out _ HT1.out.b).mono ?_
 rintro e V3 ⟨rfl,hb⟩
 have HT3:=hid (HT1.out.next hb)
 clear hb HT1 k0 k1 k2 k3 k4 k5 k6 k7 k8 z0 z1 z2 z3 z4 z5 z6 z7 z8 fx fz
 obtain ⟨k0,k1,k2,k3,k4,k5,k6,k7,k8⟩:=cells9 HT3.out.x
 obtain ⟨z0,z1,z2,z3,z4,z5,z6,z7,z8⟩:=cells9 HT3.out.z
 have fx:=frz_blk HT3.out.x
 have fz:=frz_blk HT3.out.z
 by_cases hm:(add.length:Int)+(rem.length:Int)=0
 ·have c1:((add.length:Int)+(rem.length:Int) == 0)=true:=beq_iff_eq.2 hm
  have HR:Hid (r=(Pt.zero,19)):=by
   show _=_
   have:BM=false:=by rw [HM.out];exact decide_eq_false (by omega)
   rw [HE2.out,this];simp
  clear hm
  go_wp2_with fail
  exact leaf9 HT3.out rfl Tryz.results81 (n:=.int .i64 19) rfl rfl rfl fun W9 HT9 hsz9 HOFF=>(by rw [HR.out];exact res_err _ HT9.out.b)
 have c1:((add.length:Int)+(rem.length:Int) == 0)=false:=beq_eq_false_iff_ne.2 hm
 have HBM:Hid (BM=true):=by show _=_;rw [HM.out];exact decide_eq_true (by omega)
 clear hm HM
 rw [HBM.out] at HE2
 cases B2
 case true =>
  have HR:Hid (r=(Pt.zero,19)):=by show _=_;rw [HE2.out];simp
  go_wp2_with fail
  exact leaf9 HT3.out rfl Tryz.results81 (n:=.int .i64 19) rfl rfl rfl fun W9 HT9 hsz9 HOFF=>(by rw [HR.out];exact res_err _ HT9.out.b)
 have HE3:Hid (r=if ld≠0∧B3=true then verP (ledP ⟨id,ld,ep,vr,I,T,[],[],mn⟩ H) else verP ⟨id,ld,ep,vr,I,T,[],[],mn⟩):=by show _=_;rw [HE2.out];simp
 clear HE2
 have HT1:=HT3
 clear HT3
 go_wp2_with fail
 refine (G60.out _ HT1.out.b).mono ?_
 rintro e W2 ⟨v',rfl,h1,h2,hb⟩
 have h2':=h2.mono (Y:=fun b=>w.heap.size+2≤b) fun b hx=>Nat.le_trans HT1.out.s hx
 obtain ⟨x1,y1,x2,y2,x3,y3,x4,y4,rfl,q1,q2,q3,q4,ii⟩:=h1.open
 obtain ⟨n1,n2,n3,n4⟩:=h2' _ _ _ _ _ _ _ _ _ rfl
 simp only at q1 q2 q3 q4 n1 n2 n3 n4 ii
 have HT2:=hid (HT1.out.next hb)
 have LN:=hid (And.intro n1 (And.intro n2 (And.intro n3 n4)))
 have LB:Hid (IA w W2 (.slice x1 isr.length y1) isr∧IA w W2 (.slice x2 reps.length y2) reps∧IA w W2 (.slice x3 add.length y3) add∧IA w W2 (.slice x4 rem.length y4) rem):=⟨⟨q1,n1.mono fun b hx=>.inr hx⟩,⟨q2,n2.mono fun b hx=>.inr hx⟩,⟨q3,n3.mono fun b hx=>.inr hx⟩,⟨q4,n4.mono fun b hx=>.inr hx⟩⟩
 have HI:=hid ii
 clear q1 q2 q3 q4 n1 n2 n3 n4 ii h1 h2 h2' hb k0 k1 k2 k3 k4 k5 k6 k7 k8 z0 z1 z2 z3 z4 z5 z6 z7 z8 fx fz
 obtain ⟨k0,k1,k2,k3,k4,k5,k6,k7,k8⟩:=cells9 HT2.out.x
 obtain ⟨z0,z1,z2,z3,z4,z5,z6,z7,z8⟩:=cells9 HT2.out.z
 have fx:=frz_blk HT2.out.x
 have fz:=frz_blk HT2.out.z
 go_upto_region 8 with fail
 have HT3:=hid (nine_x HT2.out rfl (.int .i64 id) (.int .i64 ld) (.int .i64 ep) (.int .i64 vr) (.slice x1 isr.length y1) (.slice x2 reps.length y2) (.slice x3 add.length y3) (.slice x4 rem.length y4) (.int .i64 mn))
 have LA:=hid (And.intro (LB.out.1.nine (.int .i64 id) (.int .i64 ld) (.int .i64 ep) (.int .i64 vr) (.slice x1 isr.length y1) (.slice x2 reps.length y2) (.slice x3 add.length y3) (.slice x4 rem.length y4) (.int .i64 mn)) (And.intro (LB.out.2.1.nine (.int .i64 id) (.int .i64 ld) (.int .i64 ep) (.int .i64 vr) (.slice x1 isr.length y1) (.slice x2 reps.length y2) (.slice x3 add.length y3) (.slice x4 rem.length y4) (.int .i64 mn)) (And.intro (LB.out.2.2.1.nine (.int .i64 id) (.int .i64 ld) (.int .i64 ep) (.int .i64 vr) (.slice x1 isr.length y1) (.slice x2 reps.length y2) (.slice x3 add.length y3) (.slice x4 rem.length y4) (.int .i64 mn)) (LB.out.2.2.2.nine (.int .i64 id) (.int .i64 ld) (.int .i64 ep) (.int .i64 vr) (.slice x1 isr.length y1) (.slice x2 reps.length y2) (.slice x3 add.length y3) (.slice x4 rem.length y4) (.int .i64 mn)))))
 clear k0 k1 k2 k3 k4 k5 k6 k7 k8 z0 z1 z2 z3 z4 z5 z6 z7 z8 fx fz LB HT2 HT1
 generalize (((((((((W2.setCell ⟨w.heap.size,0,none⟩ (.int .i64 id)).setCell ⟨w.heap.size,1,none⟩ (.int .i64 ld)).setCell ⟨w.heap.size,2,none⟩ (.int .i64 ep)).setCell ⟨w.heap.size,3,none⟩ (.int .i64 vr)).setCell ⟨w.heap.size,4,none⟩ (.slice x1 isr.length y1)).setCell ⟨w.heap.size,5,none⟩ (.slice x2 reps.length y2)).setCell ⟨w.heap.size,6,none⟩ (.slice x3 add.length y3)).setCell ⟨w.heap.size,7,none⟩ (.slice x4 rem.length y4)).setCell ⟨w.heap.size,8,none⟩ (.int .i64 mn))=W3 at *
 obtain ⟨k0,k1,k2,k3,k4,k5,k6,k7,k8⟩:=cells9 HT3.out.x
 obtain ⟨z0,z1,z2,z3,z4,z5,z6,z7,z8⟩:=cells9 HT3.out.z
 have fx:=frz_blk HT3.out.x
 have fz:=frz_blk HT3.out.z
 have L:Hid (NW w W3 (.slice x1 isr.length y1) isr∧NW w W3 (.slice x2 reps.length y2) reps∧NW w W3 (.slice x3 add.length y3) add∧NW w W3 (.slice x4 rem.length y4) rem):=⟨⟨LA.out.1.1,LN.out.1⟩,⟨LA.out.2.1.1,LN.out.2.1⟩,⟨LA.out.2.2.1.1,LN.out.2.2.1⟩,⟨LA.out.2.2.2.1,LN.out.2.2.2⟩⟩
 clear LA LN
 go_wp2_with fail
 refine (G63.out _ _ _ _ _ L.out.2.1.1 L.out.2.2.1.1).mono ?_
 rintro e W4 ⟨ta,tc,rfl,h1,h2,hb⟩
 have HT4:=hid (HT3.out.next hb)
 have L4:Hid (NW w W4 (.slice x1 isr.length y1) isr∧NW w W4 (.slice x2 reps.length y2) reps∧NW w W4 (.slice x3 add.length y3) add∧NW w W4 (.slice x4 rem.length y4) rem):=⟨L.out.1.under hb,L.out.2.1.under hb,L.out.2.2.1.under hb,L.out.2.2.2.under hb⟩
 have LR:=hid (nw_new (w:=w) h1 h2 HT3.out.s)
 clear h1 h2 hb HT3 L k0 k1 k2 k3 k4 k5 k6 k7 k8 z0 z1 z2 z3 z4 z5 z6 z7 z8 fx fz
 obtain ⟨k0,k1,k2,k3,k4,k5,k6,k7,k8⟩:=cells9 HT4.out.x
 obtain ⟨z0,z1,z2,z3,z4,z5,z6,z7,z8⟩:=cells9 HT4.out.z
 have fx:=frz_blk HT4.out.x
 have fz:=frz_blk HT4.out.z
 go_upto_region 9 with fail
 have HT5:Hid (TwoB w (W4.setCell ⟨w.heap.size,5,none⟩ (.slice ta T.length tc)) (PL id ld ep vr x1 isr y1 ta T tc x3 add y3 x4 rem y4 mn) PZ):=HT4.out.setx 5 (.slice ta T.length tc)
 have L5:Hid (NW w (W4.setCell ⟨w.heap.size,5,none⟩ (.slice ta T.length tc)) (.slice x1 isr.length y1) isr∧NW w (W4.setCell ⟨w.heap.size,5,none⟩ (.slice ta T.length tc)) (.slice ta T.length tc) T∧NW w (W4.setCell ⟨w.heap.size,5,none⟩ (.slice ta T.length tc)) (.slice x3 add.length y3) add∧NW w (W4.setCell ⟨w.heap.size,5,none⟩ (.slice ta T.length tc)) (.slice x4 rem.length y4) rem):=⟨L4.out.1.set 5 (.slice ta T.length tc),(LR.out).set 5 (.slice ta T.length tc),L4.out.2.2.1.set 5 (.slice ta T.length tc),L4.out.2.2.2.set 5 (.slice ta T.length tc)⟩
 clear HT4 L4 k0 k1 k2 k3 k4 k5 k6 k7 k8 z0 z1 z2 z3 z4 z5 z6 z7 z8 fx fz
 generalize W4.setCell ⟨w.heap.size,5,none⟩ (.slice ta T.length tc)=W5 at *
 obtain ⟨k0,k1,k2,k3,k4,k5,k6,k7,k8⟩:=cells9 HT5.out.x
 obtain ⟨z0,z1,z2,z3,z4,z5,z6,z7,z8⟩:=cells9 HT5.out.z
 have fx:=frz_blk HT5.out.x
 have fz:=frz_blk HT5.out.z
 go_wp2_with fail
 refine (G63b.out _ _ _ _ _ L5.out.1.1 L5.out.2.2.1.1).mono ?_
 rintro e W6 ⟨ra,rc,rfl,h1,h2,hb⟩
 have HT6:=hid (HT5.out.next hb)
 have L6:Hid (NW w W6 (.slice x1 isr.length y1) isr∧NW w W6 (.slice ta T.length tc) T∧NW w W6 (.slice x3 add.length y3) add∧NW w W6 (.slice x4 rem.length y4) rem):=⟨L5.out.1.under hb,L5.out.2.1.under hb,L5.out.2.2.1.under hb,L5.out.2.2.2.under hb⟩
 have LR2:=hid (nw_new (w:=w) h1 h2 HT5.out.s)
 clear h1 h2 hb HT5 L5 LR k0 k1 k2 k3 k4 k5 k6 k7 k8 z0 z1 z2 z3 z4 z5 z6 z7 z8 fx fz
 obtain ⟨k0,k1,k2,k3,k4,k5,k6,k7,k8⟩:=cells9 HT6.out.x
 obtain ⟨z0,z1,z2,z3,z4,z5,z6,z7,z8⟩:=cells9 HT6.out.z
 have fx:=frz_blk HT6.out.x
 have fz:=frz_blk HT6.out.z
 go_upto_region 10 with fail
 have HT7:Hid (TwoB w (W6.setCell ⟨w.heap.size,4,none⟩ (.slice ra I.length rc)) (PL id ld ep vr ra I rc ta T tc x3 add y3 x4 rem y4 mn) PZ):=HT6.out.setx 4 (.slice ra I.length rc)
 have L7:Hid (NW w (W6.setCell ⟨w.heap.size,4,none⟩ (.slice ra I.length rc)) (.slice ra I.length rc) I∧NW w (W6.setCell ⟨w.heap.size,4,none⟩ (.slice ra I.length rc)) (.slice ta T.length tc) T∧NW w (W6.setCell ⟨w.heap.size,4,none⟩ (.slice ra I.length rc)) (.slice x3 add.length y3) add∧NW w (W6.setCell ⟨w.heap.size,4,none⟩ (.slice ra I.length rc)) (.slice x4 rem.length y4) rem):=⟨(LR2.out).set 4 (.slice ra I.length rc),L6.out.2.1.set 4 (.slice ra I.length rc),L6.out.2.2.1.set 4 (.slice ra I.length rc),L6.out.2.2.2.set 4 (.slice ra I.length rc)⟩
 clear HT6 L6 k0 k1 k2 k3 k4 k5 k6 k7 k8 z0 z1 z2 z3 z4 z5 z6 z7 z8 fx fz
 generalize W6.setCell ⟨w.heap.size,4,none⟩ (.slice ra I.length rc)=W7 at *
 obtain ⟨k0,k1,k2,k3,k4,k5,k6,k7,k8⟩:=cells9 HT7.out.x
 obtain ⟨z0,z1,z2,z3,z4,z5,z6,z7,z8⟩:=cells9 HT7.out.z
 have fx:=frz_blk HT7.out.x
 have fz:=frz_blk HT7.out.z
 go_wp2_with fail
 refine (G42.out _ _ _ L7.out.2.2.1.1).mono ?_
 rintro e W8 ⟨rfl,rfl⟩
 clear LR2
 go_upto_region 12 with fail
 have HT8:Hid (TwoB w (W7.setCell ⟨w.heap.size,6,none⟩ (.slice none 0 0)) #[.int .i64 id,.int .i64 ld,.int .i64 ep,.int .i64 vr,.slice ra I.length rc,.slice ta T.length tc,.slice none 0 0,.slice x4 rem.length y4,.int .i64 mn] PZ):=HT7.out.setx 6 (.slice none 0 0)
 have L8:Hid (NW w (W7.setCell ⟨w.heap.size,6,none⟩ (.slice none 0 0)) (.slice ra I.length rc) I∧NW w (W7.setCell ⟨w.heap.size,6,none⟩ (.slice none 0 0)) (.slice ta T.length tc) T∧NW w (W7.setCell ⟨w.heap.size,6,none⟩ (.slice none 0 0)) (.slice none 0 0) []∧NW w (W7.setCell ⟨w.heap.size,6,none⟩ (.slice none 0 0)) (.slice x4 rem.length y4) rem):=⟨L7.out.1.set 6 (.slice none 0 0),L7.out.2.1.set 6 (.slice none 0 0),(NW.nil w W7).set 6 (.slice none 0 0),L7.out.2.2.2.set 6 (.slice none 0 0)⟩
 clear HT7 L7 k0 k1 k2 k3 k4 k5 k6 k7 k8 z0 z1 z2 z3 z4 z5 z6 z7 z8 fx fz
 generalize W7.setCell ⟨w.heap.size,6,none⟩ (.slice none 0 0)=W8 at *
 obtain ⟨k0,k1,k2,k3,k4,k5,k6,k7,k8⟩:=cells9 HT8.out.x
 obtain ⟨z0,z1,z2,z3,z4,z5,z6,z7,z8⟩:=cells9 HT8.out.z
 have fx:=frz_blk HT8.out.x
 have fz:=frz_blk HT8.out.z
 go_upto_region 13 with fail
 have HT9:Hid (TwoB w (W8.setCell ⟨w.heap.size,7,none⟩ (.slice none 0 0)) #[.int .i64 id,.int .i64 ld,.int .i64 ep,.int .i64 vr,.slice ra I.length rc,.slice ta T.length tc,.slice none 0 0,.slice none 0 0,.int .i64 mn] PZ):=HT8.out.setx 7 (.slice none 0 0)
 have L9:Hid (NW w (W8.setCell ⟨w.heap.size,7,none⟩ (.slice none 0 0)) (.slice ra I.length rc) I∧NW w (W8.setCell ⟨w.heap.size,7,none⟩ (.slice none 0 0)) (.slice ta T.length tc) T∧NW w (W8.setCell ⟨w.heap.size,7,none⟩ (.slice none 0 0)) (.slice none 0 0) []∧NW w (W8.setCell ⟨w.heap.size,7,none⟩ (.slice none 0 0)) (.slice none 0 0) []):=⟨L8.out.1.set 7 (.slice none 0 0),L8.out.2.1.set 7 (.slice none 0 0),L8.out.2.2.1.set 7 (.slice none 0 0),(NW.nil w W8).set 7 (.slice none 0 0)⟩
 clear HT8 L8 k0 k1 k2 k3 k4 k5 k6 k7 k8 z0 z1 z2 z3 z4 z5 z6 z7 z8 fx fz
 generalize W8.setCell ⟨w.heap.size,7,none⟩ (.slice none 0 0)=W9 at *
 obtain ⟨k0,k1,k2,k3,k4,k5,k6,k7,k8⟩:=cells9 HT9.out.x
 obtain ⟨z0,z1,z2,z3,z4,z5,z6,z7,z8⟩:=cells9 HT9.out.z
 have fx:=frz_blk HT9.out.x
 have fz:=frz_blk HT9.out.z
 have hIH:=HIH.out _ _ _ L9.out.2.1.1
 generalize W9=W8 at *
 have HT8:=HT9
 have L8:=L9
 clear HT9 L9
 have c0:Hid True:=trivial
 by_cases h0:ld=0
 ·have c2:(ld != 0)=false:=by simp [h0]
  have HR:Hid (r=verP ⟨id,ld,ep,vr,I,T,[],[],mn⟩):=by show _=_;rw [HE3.out,if_neg (fun e=>e.1 h0)]
  clear h0
  have GC:=hid (rchanged_any (X:=fun b=>w.heap.size+2≤b) (w:=W8) (v:=.agg #[.int .i64 id,.int .i64 ld,.int .i64 ep,.int .i64 vr,.slice ra I.length rc,.slice ta T.length tc,.slice none 0 0,.slice none 0 0,.int .i64 mn]) (p:=⟨id,ld,ep,vr,I,T,[],[],mn⟩) ⟨_,_,_,_,rfl,L8.out.1.1,L8.out.2.1.1,L8.out.2.2.1.1,L8.out.2.2.2.1,HI.out⟩ (inP_of L8.out.1.2 L8.out.2.1.2 L8.out.2.2.1.2 L8.out.2.2.2.2) hvr)
  generalize verP ⟨id,ld,ep,vr,I,T,[],[],mn⟩=r2 at *
  obtain ⟨⟨rid,rld,rep,rvr,rl1,rl2,rl3,rl4,rmn⟩,re⟩:=r2
  go_wp2_with fail
  refine GC.out.mono ?_
  rintro e W7 ⟨v',rfl,h1,h2,hb⟩
  obtain ⟨g1,j1,g2,j2,g3,j3,g4,j4,rfl,q1,q2,q3,q4,ii⟩:=h1.open
  obtain ⟨n1,n2,n3,n4⟩:=h2 _ _ _ _ _ _ _ _ _ rfl
  simp only at q1 q2 q3 q4 n1 n2 n3 n4 ii
  have HT7:=hid (HT8.out.next hb)
  have HL:Hid (IA w W7 (.slice g1 rl1.length j1) rl1∧IA w W7 (.slice g2 rl2.length j2) rl2∧IA w W7 (.slice g3 rl3.length j3) rl3∧IA w W7 (.slice g4 rl4.length j4) rl4):=⟨⟨q1,n1.mono fun b hx=>.inr hx⟩,⟨q2,n2.mono fun b hx=>.inr hx⟩,⟨q3,n3.mono fun b hx=>.inr hx⟩,⟨q4,n4.mono fun b hx=>.inr hx⟩⟩
  have HN:Hid (InP (fun b=>w.heap.size≤b) (.agg (PL rid rld rep rvr g1 rl1 j1 g2 rl2 j2 g3 rl3 j3 g4 rl4 j4 rmn)) ⟨rid,rld,rep,rvr,rl1,rl2,rl3,rl4,rmn⟩):=h2.mono fun b hx=>by omega
  have HI2:=hid ii
  clear q1 q2 q3 q4 n1 n2 n3 n4 ii h1 h2 hb k0 k1 k2 k3 k4 k5 k6 k7 k8 z0 z1 z2 z3 z4 z5 z6 z7 z8 fx fz
  obtain ⟨k0,k1,k2,k3,k4,k5,k6,k7,k8⟩:=cells9 HT7.out.x
  obtain ⟨z0,z1,z2,z3,z4,z5,z6,z7,z8⟩:=cells9 HT7.out.z
  have fx:=frz_blk HT7.out.x
  have fz:=frz_blk HT7.out.z
  go_wp2_with fail
  exact leaf9 HT7.out rfl Tryz.results81 (n:=.int .i64 re) rfl rfl rfl fun W9 HT9 hsz9 HOFF=>(by rw [HR.out];exact ⟨_,rfl,⟨_,_,_,_,rfl,HL.out.1.offz HOFF.out hsz9,HL.out.2.1.offz HOFF.out hsz9,HL.out.2.2.1.offz HOFF.out hsz9,HL.out.2.2.2.offz HOFF.out hsz9,HI2.out⟩,HN.out,HT9.out.b⟩)
 have c2:(ld != 0)=true:=by simp [h0]
 cases B3
 case false =>
  have HR:Hid (r=verP ⟨id,ld,ep,vr,I,T,[],[],mn⟩):=by show _=_;rw [HE3.out,if_neg (fun e=>by cases e.2)]
  clear h0
  have GC:=hid (rchanged_any (X:=fun b=>w.heap.size+2≤b) (w:=W8) (v:=.agg #[.int .i64 id,.int .i64 ld,.int .i64 ep,.int .i64 vr,.slice ra I.length rc,.slice ta T.length tc,.slice none 0 0,.slice none 0 0,.int .i64 mn]) (p:=⟨id,ld,ep,vr,I,T,[],[],mn⟩) ⟨_,_,_,_,rfl,L8.out.1.1,L8.out.2.1.1,L8.out.2.2.1.1,L8.out.2.2.2.1,HI.out⟩ (inP_of L8.out.1.2 L8.out.2.1.2 L8.out.2.2.1.2 L8.out.2.2.2.2) hvr)
  generalize verP ⟨id,ld,ep,vr,I,T,[],[],mn⟩=r2 at *
  obtain ⟨⟨rid,rld,rep,rvr,rl1,rl2,rl3,rl4,rmn⟩,re⟩:=r2
  go_wp2_with fail
  refine GC.out.mono ?_
  rintro e W7 ⟨v',rfl,h1,h2,hb⟩
  obtain ⟨g1,j1,g2,j2,g3,j3,g4,j4,rfl,q1,q2,q3,q4,ii⟩:=h1.open
  obtain ⟨n1,n2,n3,n4⟩:=h2 _ _ _ _ _ _ _ _ _ rfl
  simp only at q1 q2 q3 q4 n1 n2 n3 n4 ii
  have HT7:=hid (HT8.out.next hb)
  have HL:Hid (IA w W7 (.slice g1 rl1.length j1) rl1∧IA w W7 (.slice g2 rl2.length j2) rl2∧IA w W7 (.slice g3 rl3.length j3) rl3∧IA w W7 (.slice g4 rl4.length j4) rl4):=⟨⟨q1,n1.mono fun b hx=>.inr hx⟩,⟨q2,n2.mono fun b hx=>.inr hx⟩,⟨q3,n3.mono fun b hx=>.inr hx⟩,⟨q4,n4.mono fun b hx=>.inr hx⟩⟩
  have HN:Hid (InP (fun b=>w.heap.size≤b) (.agg (PL rid rld rep rvr g1 rl1 j1 g2 rl2 j2 g3 rl3 j3 g4 rl4 j4 rmn)) ⟨rid,rld,rep,rvr,rl1,rl2,rl3,rl4,rmn⟩):=h2.mono fun b hx=>by omega
  have HI2:=hid ii
  clear q1 q2 q3 q4 n1 n2 n3 n4 ii h1 h2 hb k0 k1 k2 k3 k4 k5 k6 k7 k8 z0 z1 z2 z3 z4 z5 z6 z7 z8 fx fz
  obtain ⟨k0,k1,k2,k3,k4,k5,k6,k7,k8⟩:=cells9 HT7.out.x
  obtain ⟨z0,z1,z2,z3,z4,z5,z6,z7,z8⟩:=cells9 HT7.out.z
  have fx:=frz_blk HT7.out.x
  have fz:=frz_blk HT7.out.z
  go_wp2_with fail
  exact leaf9 HT7.out rfl Tryz.results81 (n:=.int .i64 re) rfl rfl rfl fun W9 HT9 hsz9 HOFF=>(by rw [HR.out];exact ⟨_,rfl,⟨_,_,_,_,rfl,HL.out.1.offz HOFF.out hsz9,HL.out.2.1.offz HOFF.out hsz9,HL.out.2.2.1.offz HOFF.out hsz9,HL.out.2.2.2.offz HOFF.out hsz9,HI2.out⟩,HN.out,HT9.out.b⟩)
 case true =>
  have HR:Hid (r=verP (ledP ⟨id,ld,ep,vr,I,T,[],[],mn⟩ H)):=by show _=_;rw [HE3.out,if_pos ⟨h0,rfl⟩]
  clear h0 HE3
  have HKV:=hid (led_ver0 ⟨id,ld,ep,vr,I,T,[],[],mn⟩ H)
  generalize hK:ledP ⟨id,ld,ep,vr,I,T,[],[],mn⟩ H=K at *
  have HK:=hid hK
  obtain ⟨kid,kld,kep,kvr,kl1,kl2,kl3,kl4,kmn⟩:=K
  have HKV2:Hid (1≤kvr∧kvr≤1000000000):=by show _∧_;have e:kvr=vr:=HKV.out;rw [e];exact hvr
  clear hK HKV
  have G64v:Hid (∀ V,Below W8.heap.size W8 V→Calls Tryz.prog 133 #[.slice ta T.length tc,.slice ra I.length rc,.slice ua up.length uc,.int .i64 ld] V fun e w'=>e=.returned (.int .i64 H)∧V=w'):=fun V hb=>G64.out V _ _ _ _ (HT8.out.b.trans (hb.mono HT8.out.b.size)) (L8.out.2.1.under hb).1 (L8.out.1.under hb).1
  have G62:Hid (∀ V,Below W8.heap.size W8 V→Calls Tryz.prog 127 #[.agg #[.int .i64 id,.int .i64 ld,.int .i64 ep,.int .i64 vr,.slice ra I.length rc,.slice ta T.length tc,.slice none 0 0,.slice none 0 0,.int .i64 mn],.int .i64 H] V fun e w'=>∃ s1 m1 s2 m2 s3 m3 s4 m4,e=.returned (.agg (PL kid kld kep kvr s1 kl1 m1 s2 kl2 m2 s3 kl3 m3 s4 kl4 m4 kmn))∧Hid (NW w w' (.slice s1 kl1.length m1) kl1∧NW w w' (.slice s2 kl2.length m2) kl2∧NW w w' (.slice s3 kl3.length m3) kl3∧NW w w' (.slice s4 kl4.length m4) kl4)∧Hid (I64 kid∧I64 kld∧I64 kep∧I64 kvr∧I64 kmn)∧Below W8.heap.size W8 w'):=fun V hb=>(rleads_sl (w:=w) (W:=V) (v:=.agg #[.int .i64 id,.int .i64 ld,.int .i64 ep,.int .i64 vr,.slice ra I.length rc,.slice ta T.length tc,.slice none 0 0,.slice none 0 0,.int .i64 mn]) (p:=⟨id,ld,ep,vr,I,T,[],[],mn⟩) ⟨_,_,_,_,rfl,(L8.out.1.under hb).1,(L8.out.2.1.under hb).1,(L8.out.2.2.1.under hb).1,(L8.out.2.2.2.under hb).1,HI.out⟩ (inP_of L8.out.1.2 L8.out.2.1.2 L8.out.2.2.1.2 L8.out.2.2.2.2) H hIH hep HK.out).mono fun e w' ⟨s1,m1,s2,m2,s3,m3,s4,m4,e1,e2,e3,e4⟩=>⟨s1,m1,s2,m2,s3,m3,s4,m4,e1,e2,e3,hb.trans (e4.mono hb.size)⟩
  clear G64
  go_upto_region 14 with fail
  go_cut [] from 58 to 68 (fun W=>∃ s1 m1 s2 m2 s3 m3 s4 m4,Hid (TwoB w W (PL kid kld kep kvr s1 kl1 m1 s2 kl2 m2 s3 kl3 m3 s4 kl4 m4 kmn) PZ)∧Hid (NW w W (.slice s1 kl1.length m1) kl1∧NW w W (.slice s2 kl2.length m2) kl2∧NW w W (.slice s3 kl3.length m3) kl3∧NW w W (.slice s4 kl4.length m4) kl4)∧Hid (I64 kid∧I64 kld∧I64 kep∧I64 kvr∧I64 kmn))
  case first =>
   have HS:Hid (Below W8.heap.size W8 W8.drew):=(Below.refl _ _).drew
   refine region_last (fun V=>Hid (Below W8.heap.size W8 V)) 10 (by kernel_rfl) ?_
   refine ButLast.take 0 (.agg #[.int .i64 id,.int .i64 ld,.int .i64 ep,.int .i64 vr,.slice ra I.length rc,.slice ta T.length tc,.slice none 0 0,.slice none 0 0,.int .i64 mn]) [9] rfl (by kernel_rfl) (by kernel_rfl) (by kernel_rfl) (by kernel_rfl) (by kernel_rfl) (fun _ _ _ h=>h) (Or.inl ⟨by rfl,fun V hV=>by have T:=HT8.out.next hV.out;have k0:=cell_blk T.x 0 _ rfl;have k1:=cell_blk T.x 1 _ rfl;have k2:=cell_blk T.x 2 _ rfl;have k3:=cell_blk T.x 3 _ rfl;have k4:=cell_blk T.x 4 _ rfl;have k5:=cell_blk T.x 5 _ rfl;have k6:=cell_blk T.x 6 _ rfl;have k7:=cell_blk T.x 7 _ rfl;have k8:=cell_blk T.x 8 _ rfl;go_simp⟩) HS ?_
   simp only [Act.put,List.setIfInBounds_toArray,List.set_cons_zero,List.set_cons_succ]
   refine ButLast.take 1 (.pointer (some ⟨w.heap.size,5,none⟩)) [9,8,2] rfl (by kernel_rfl) (by kernel_rfl) (by kernel_rfl) (by kernel_rfl) (by kernel_rfl) (fun _ _ _ h=>h) (Or.inl ⟨by rfl,fun V hV=>by go_simp⟩) HS ?_
   simp only [Act.put,List.setIfInBounds_toArray,List.set_cons_zero,List.set_cons_succ]
   refine ButLast.take 2 (.slice ta T.length tc) [9,8] rfl (by kernel_rfl) (by kernel_rfl) (by kernel_rfl) (by kernel_rfl) (by kernel_rfl) (fun _ _ _ h=>h) (Or.inl ⟨by rfl,fun V hV=>by have T:=HT8.out.next hV.out;have k5:=cell_blk T.x 5 _ rfl;go_simp⟩) HS ?_
   simp only [Act.put,List.setIfInBounds_toArray,List.set_cons_zero,List.set_cons_succ]
   refine ButLast.take 3 (.pointer (some ⟨w.heap.size,4,none⟩)) [9,8,4] rfl (by kernel_rfl) (by kernel_rfl) (by kernel_rfl) (by kernel_rfl) (by kernel_rfl) (fun _ _ _ h=>h) (Or.inl ⟨by rfl,fun V hV=>by go_simp⟩) HS ?_
   simp only [Act.put,List.setIfInBounds_toArray,List.set_cons_zero,List.set_cons_succ]
   refine ButLast.take 4 (.slice ra I.length rc) [9,8] rfl (by kernel_rfl) (by kernel_rfl) (by kernel_rfl) (by kernel_rfl) (by kernel_rfl) (fun _ _ _ h=>h) (Or.inl ⟨by rfl,fun V hV=>by have T:=HT8.out.next hV.out;have k4:=cell_blk T.x 4 _ rfl;go_simp⟩) HS ?_
   simp only [Act.put,List.setIfInBounds_toArray,List.set_cons_zero,List.set_cons_succ]
   refine ButLast.take 5 (.slice ua up.length uc) [9,8] rfl (by kernel_rfl) (by kernel_rfl) (by kernel_rfl) (by kernel_rfl) (by kernel_rfl) (fun _ _ _ h=>h) (Or.inl ⟨by rfl,fun V hV=>by go_simp⟩) HS ?_
   simp only [Act.put,List.setIfInBounds_toArray,List.set_cons_zero,List.set_cons_succ]
   refine ButLast.take 6 (.pointer (some ⟨w.heap.size,1,none⟩)) [9,8,7] rfl (by kernel_rfl) (by kernel_rfl) (by kernel_rfl) (by kernel_rfl) (by kernel_rfl) (fun _ _ _ h=>h) (Or.inl ⟨by rfl,fun V hV=>by go_simp⟩) HS ?_
   simp only [Act.put,List.setIfInBounds_toArray,List.set_cons_zero,List.set_cons_succ]
   refine ButLast.take 7 (.int .i64 ld) [9,8] rfl (by kernel_rfl) (by kernel_rfl) (by kernel_rfl) (by kernel_rfl) (by kernel_rfl) (fun _ _ _ h=>h) (Or.inl ⟨by rfl,fun V hV=>by have T:=HT8.out.next hV.out;have k1:=cell_blk T.x 1 _ rfl;go_simp⟩) HS ?_
   simp only [Act.put,List.setIfInBounds_toArray,List.set_cons_zero,List.set_cons_succ]
   refine ButLast.one 8 (by kernel_rfl) rfl (fun K hK=>?_)
   refine step_go 133 _ _ rfl rfl #[.slice ta T.length tc,.slice ra I.length rc,.slice ua up.length uc,.int .i64 ld] (by simp [Act.eval]) (by simp [go_sem]) (G64v.out _ HS.out) ?_
   rintro e W9 ⟨rfl,rfl⟩
   refine ⟨_,rfl,?_⟩
   refine hK.out _ _ (fun _=>HS) ?_
   clear hK K
   simp only [Act.put,List.setIfInBounds_toArray,List.set_cons_zero,List.set_cons_succ]
   refine ButLast.one 9 (by kernel_rfl) rfl (fun K hK=>?_)
   refine step_go 127 _ _ rfl rfl #[.agg #[.int .i64 id,.int .i64 ld,.int .i64 ep,.int .i64 vr,.slice ra I.length rc,.slice ta T.length tc,.slice none 0 0,.slice none 0 0,.int .i64 mn],.int .i64 H] (by simp [Act.eval]) (by simp [go_sem]) (G62.out _ HS.out) ?_
   rintro e W8b ⟨s1,m1,s2,m2,s3,m3,s4,m4,rfl,L8b,HI8,hb⟩
   have HT8b:=hid (HT8.out.next hb)
   refine ⟨_,rfl,?_⟩
   refine hK.out _ _ (fun _=>hid hb) ?_
   clear hK K hb k0 k1 k2 k3 k4 k5 k6 k7 k8 z0 z1 z2 z3 z4 z5 z6 z7 z8 fx fz
   simp only [Act.put,List.setIfInBounds_toArray,List.set_cons_zero,List.set_cons_succ]
   obtain ⟨k0,k1,k2,k3,k4,k5,k6,k7,k8⟩:=cells9 HT8b.out.x
   obtain ⟨z0,z1,z2,z3,z4,z5,z6,z7,z8⟩:=cells9 HT8b.out.z
   have fx:=frz_blk HT8b.out.x
   have fz:=frz_blk HT8b.out.z
   refine ButLast.one 10 (by kernel_rfl) rfl (fun K hK=>?_)
   go_simp
   have HT9:=hid (nine_x HT8b.out rfl (.int .i64 kid) (.int .i64 kld) (.int .i64 kep) (.int .i64 kvr) (.slice s1 kl1.length m1) (.slice s2 kl2.length m2) (.slice s3 kl3.length m3) (.slice s4 kl4.length m4) (.int .i64 kmn))
   have L9:Hid (NW w ((((((((((W8b.setCell ⟨w.heap.size,0,none⟩ (.int .i64 kid)).setCell ⟨w.heap.size,1,none⟩ (.int .i64 kld)).setCell ⟨w.heap.size,2,none⟩ (.int .i64 kep)).setCell ⟨w.heap.size,3,none⟩ (.int .i64 kvr)).setCell ⟨w.heap.size,4,none⟩ (.slice s1 kl1.length m1)).setCell ⟨w.heap.size,5,none⟩ (.slice s2 kl2.length m2)).setCell ⟨w.heap.size,6,none⟩ (.slice s3 kl3.length m3)).setCell ⟨w.heap.size,7,none⟩ (.slice s4 kl4.length m4)).setCell ⟨w.heap.size,8,none⟩ (.int .i64 kmn))) (.slice s1 kl1.length m1) kl1∧NW w ((((((((((W8b.setCell ⟨w.heap.size,0,none⟩ (.int .i64 kid)).setCell ⟨w.heap.size,1,none⟩ (.int .i64 kld)).setCell ⟨w.heap.size,2,none⟩ (.int .i64 kep)).setCell ⟨w.heap.size,3,none⟩ (.int .i64 kvr)).setCell ⟨w.heap.size,4,none⟩ (.slice s1 kl1.length m1)).setCell ⟨w.heap.size,5,none⟩ (.slice s2 kl2.length m2)).setCell ⟨w.heap.size,6,none⟩ (.slice s3 kl3.length m3)).setCell ⟨w.heap.size,7,none⟩ (.slice s4 kl4.length m4)).setCell ⟨w.heap.size,8,none⟩ (.int .i64 kmn))) (.slice s2 kl2.length m2) kl2∧NW w ((((((((((W8b.setCell ⟨w.heap.size,0,none⟩ (.int .i64 kid)).setCell ⟨w.heap.size,1,none⟩ (.int .i64 kld)).setCell ⟨w.heap.size,2,none⟩ (.int .i64 kep)).setCell ⟨w.heap.size,3,none⟩ (.int .i64 kvr)).setCell ⟨w.heap.size,4,none⟩ (.slice s1 kl1.length m1)).setCell ⟨w.heap.size,5,none⟩ (.slice s2 kl2.length m2)).setCell ⟨w.heap.size,6,none⟩ (.slice s3 kl3.length m3)).setCell ⟨w.heap.size,7,none⟩ (.slice s4 kl4.length m4)).setCell ⟨w.heap.size,8,none⟩ (.int .i64 kmn))) (.slice s3 kl3.length m3) kl3∧NW w ((((((((((W8b.setCell ⟨w.heap.size,0,none⟩ (.int .i64 kid)).setCell ⟨w.heap.size,1,none⟩ (.int .i64 kld)).setCell ⟨w.heap.size,2,none⟩ (.int .i64 kep)).setCell ⟨w.heap.size,3,none⟩ (.int .i64 kvr)).setCell ⟨w.heap.size,4,none⟩ (.slice s1 kl1.length m1)).setCell ⟨w.heap.size,5,none⟩ (.slice s2 kl2.length m2)).setCell ⟨w.heap.size,6,none⟩ (.slice s3 kl3.length m3)).setCell ⟨w.heap.size,7,none⟩ (.slice s4 kl4.length m4)).setCell ⟨w.heap.size,8,none⟩ (.int .i64 kmn))) (.slice s4 kl4.length m4) kl4):=⟨L8b.out.1.nine (.int .i64 kid) (.int .i64 kld) (.int .i64 kep) (.int .i64 kvr) (.slice s1 kl1.length m1) (.slice s2 kl2.length m2) (.slice s3 kl3.length m3) (.slice s4 kl4.length m4) (.int .i64 kmn),L8b.out.2.1.nine (.int .i64 kid) (.int .i64 kld) (.int .i64 kep) (.int .i64 kvr) (.slice s1 kl1.length m1) (.slice s2 kl2.length m2) (.slice s3 kl3.length m3) (.slice s4 kl4.length m4) (.int .i64 kmn),L8b.out.2.2.1.nine (.int .i64 kid) (.int .i64 kld) (.int .i64 kep) (.int .i64 kvr) (.slice s1 kl1.length m1) (.slice s2 kl2.length m2) (.slice s3 kl3.length m3) (.slice s4 kl4.length m4) (.int .i64 kmn),L8b.out.2.2.2.nine (.int .i64 kid) (.int .i64 kld) (.int .i64 kep) (.int .i64 kvr) (.slice s1 kl1.length m1) (.slice s2 kl2.length m2) (.slice s3 kl3.length m3) (.slice s4 kl4.length m4) (.int .i64 kmn)⟩
   clear k0 k1 k2 k3 k4 k5 k6 k7 k8 z0 z1 z2 z3 z4 z5 z6 z7 z8 fx fz L8b HT8b
   generalize (((((((((W8b.setCell ⟨w.heap.size,0,none⟩ (.int .i64 kid)).setCell ⟨w.heap.size,1,none⟩ (.int .i64 kld)).setCell ⟨w.heap.size,2,none⟩ (.int .i64 kep)).setCell ⟨w.heap.size,3,none⟩ (.int .i64 kvr)).setCell ⟨w.heap.size,4,none⟩ (.slice s1 kl1.length m1)).setCell ⟨w.heap.size,5,none⟩ (.slice s2 kl2.length m2)).setCell ⟨w.heap.size,6,none⟩ (.slice s3 kl3.length m3)).setCell ⟨w.heap.size,7,none⟩ (.slice s4 kl4.length m4)).setCell ⟨w.heap.size,8,none⟩ (.int .i64 kmn))=W9 at *
   refine hK.out _ _ (fun h=>absurd rfl h) (ButLast.done (by kernel_rfl) ?_)
   clear hK
   go_wp2_with fail
   go_meet
   case rel=>exact ⟨s1,m1,s2,m2,s3,m3,s4,m4,HT9,L9,HI8⟩
  case rest =>
   obtain ⟨s1,m1,s2,m2,s3,m3,s4,m4,HT7,L7,HI7⟩:=hcut
   generalize wc=W7 at *
   clear k0 k1 k2 k3 k4 k5 k6 k7 k8 z0 z1 z2 z3 z4 z5 z6 z7 z8 fx fz
   obtain ⟨k0,k1,k2,k3,k4,k5,k6,k7,k8⟩:=cells9 HT7.out.x
   obtain ⟨z0,z1,z2,z3,z4,z5,z6,z7,z8⟩:=cells9 HT7.out.z
   have fx:=frz_blk HT7.out.x
   have fz:=frz_blk HT7.out.z
   have GC:=hid (rchanged_any (X:=fun b=>w.heap.size+2≤b) (w:=W7) (v:=.agg (PL kid kld kep kvr s1 kl1 m1 s2 kl2 m2 s3 kl3 m3 s4 kl4 m4 kmn)) (p:=⟨kid,kld,kep,kvr,kl1,kl2,kl3,kl4,kmn⟩) ⟨_,_,_,_,rfl,L7.out.1.1,L7.out.2.1.1,L7.out.2.2.1.1,L7.out.2.2.2.1,HI7.out⟩ (inP_of L7.out.1.2 L7.out.2.1.2 L7.out.2.2.1.2 L7.out.2.2.2.2) HKV2.out)
   generalize verP ⟨kid,kld,kep,kvr,kl1,kl2,kl3,kl4,kmn⟩=r2 at *
   obtain ⟨⟨rid,rld,rep,rvr,rl1,rl2,rl3,rl4,rmn⟩,re⟩:=r2
   go_wp2_with fail
   refine GC.out.mono ?_
   rintro e W8 ⟨v',rfl,h1,h2,hb⟩
   obtain ⟨g1,j1,g2,j2,g3,j3,g4,j4,rfl,q1,q2,q3,q4,ii⟩:=h1.open
   obtain ⟨n1,n2,n3,n4⟩:=h2 _ _ _ _ _ _ _ _ _ rfl
   simp only at q1 q2 q3 q4 n1 n2 n3 n4 ii
   have HT8:=hid (HT7.out.next hb)
   have HL:Hid (IA w W8 (.slice g1 rl1.length j1) rl1∧IA w W8 (.slice g2 rl2.length j2) rl2∧IA w W8 (.slice g3 rl3.length j3) rl3∧IA w W8 (.slice g4 rl4.length j4) rl4):=⟨⟨q1,n1.mono fun b hx=>.inr hx⟩,⟨q2,n2.mono fun b hx=>.inr hx⟩,⟨q3,n3.mono fun b hx=>.inr hx⟩,⟨q4,n4.mono fun b hx=>.inr hx⟩⟩
   have HN:Hid (InP (fun b=>w.heap.size≤b) (.agg (PL rid rld rep rvr g1 rl1 j1 g2 rl2 j2 g3 rl3 j3 g4 rl4 j4 rmn)) ⟨rid,rld,rep,rvr,rl1,rl2,rl3,rl4,rmn⟩):=h2.mono fun b hx=>by omega
   have HI2:=hid ii
   clear q1 q2 q3 q4 n1 n2 n3 n4 ii h1 h2 hb k0 k1 k2 k3 k4 k5 k6 k7 k8 z0 z1 z2 z3 z4 z5 z6 z7 z8 fx fz
   obtain ⟨k0,k1,k2,k3,k4,k5,k6,k7,k8⟩:=cells9 HT8.out.x
   obtain ⟨z0,z1,z2,z3,z4,z5,z6,z7,z8⟩:=cells9 HT8.out.z
   have fx:=frz_blk HT8.out.x
   have fz:=frz_blk HT8.out.z
   go_wp2_with fail
   exact leaf9 HT8.out rfl Tryz.results81 (n:=.int .i64 re) rfl rfl rfl fun W9 HT9 hsz9 HOFF=>(by rw [HR.out];exact ⟨_,rfl,⟨_,_,_,_,rfl,HL.out.1.offz HOFF.out hsz9,HL.out.2.1.offz HOFF.out hsz9,HL.out.2.2.1.offz HOFF.out hsz9,HL.out.2.2.2.offz HOFF.out hsz9,HI2.out⟩,HN.out,HT9.out.b⟩)
end Go.Proofs.YtcffomhcmilcpaaGreat
