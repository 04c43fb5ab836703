/- Alter: the document's. -/
import Derived.Test.YtcffomhcmilcpaaGreatC28
set_option maxRecDepth 100000
set_option maxHeartbeats 20000000
set_option linter.unusedVariables false
set_option linter.unusedSimpArgs false
namespace Go.Proofs.YtcffomhcmilcpaaGreat
open Go.RowKit Go.Maps
theorem ralter_any {w:World} {v m u:Value} {p:Pt} {il up:List Int} (h:PartM w v p) (l e0 v0:Int) (hl:I64 l) (he0:I64 e0) (hv0:I64 v0) (hm:IL w m il) (hu:IL w u up) :
  Calls Tryz.prog 79 #[v,.int .i64 l,.int .i64 e0,.int .i64 v0,m,u] w fun e w'=>Res (fun b=>w.heap.size≤b) w (alterP p l e0 v0 il up) e w':=by
 obtain ⟨id,ld,ep,vr,isr,reps,add,rem,mn⟩:=p
 obtain ⟨a1,c1,a2,c2,a3,c3,a4,c4,rfl,q1,q2,q3,q4,i0,i1,i2,i3,i4⟩:=h.open
 simp only at q1 q2 q3 q4 i0 i1 i2 i3 i4 ⊢
 have Q1:=hid q1
 have Q2:=hid q2
 have Q3:=hid q3
 have Q4:=hid q4
 clear h q1 q2 q3 q4
 obtain ⟨ua,uc,rfl,_⟩:=hu.shape
 obtain ⟨ma,mc,rfl,_⟩:=hm.shape
 have QU:=hid hu
 have QM:=hid hm
 have HT0:=hid (two_new w (PL id ld ep vr a1 isr c1 a2 reps c2 a3 add c3 a4 rem c4 mn) PZ)
 have G13:Hid (∀ W,Below w.heap.size w W→Calls Tryz.prog 106 #[.agg (PL id ld ep vr a1 isr c1 a2 reps c2 a3 add c3 a4 rem c4 mn)] W fun e w'=>e=.returned (.bool (rightB ⟨id,ld,ep,vr,isr,reps,add,rem,mn⟩))∧Below W.heap.size W w'):=fun W hb=>rright_any ⟨_,_,_,_,rfl,Q1.out.under hb,Q2.out.under hb,Q3.out.under hb,Q4.out.under hb,i0,i1,i2,i3,i4⟩
 have G60:Hid (∀ W,Below w.heap.size w W→Calls Tryz.prog 125 #[.agg (PL id ld ep vr a1 isr c1 a2 reps c2 a3 add c3 a4 rem c4 mn)] W fun e w'=>∃ v',e=.returned v'∧PartM w' v' ⟨id,ld,ep,vr,isr,reps,add,rem,mn⟩∧InP (fun b=>W.heap.size≤b) v' ⟨id,ld,ep,vr,isr,reps,add,rem,mn⟩∧Below W.heap.size W w'):=fun W hb=>rclone_any ⟨_,_,_,_,rfl,Q1.out.under hb,Q2.out.under hb,Q3.out.under hb,Q4.out.under hb,i0,i1,i2,i3,i4⟩
 have HE0:Hid (rightB ⟨id,ld,ep,vr,isr,reps,add,rem,mn⟩=false→alterP ⟨id,ld,ep,vr,isr,reps,add,rem,mn⟩ l e0 v0 il up=(Pt.zero,1)):=fun e=>by unfold alterP;rw [e];rfl
 have HE:Hid (rightB ⟨id,ld,ep,vr,isr,reps,add,rem,mn⟩=true→alterP ⟨id,ld,ep,vr,isr,reps,add,rem,mn⟩ l e0 v0 il up=if e0<ep∨(e0=ep∧v0<vr) then (Pt.zero,13) else if ep<e0∨vr<v0 then (Pt.zero,14) else if l=0∨l≠ld then (Pt.zero,19) else if !(idsB il && hasB il l && il.all (hasB reps) && (outL il isr).all (hasB up)) then (Pt.zero,1) else verP ⟨id,ld,ep,vr,inL reps il,reps,add,rem,mn⟩):=fun h1=>alter_doc h1 l e0 v0 il up
 have HBD:Hid (rightB ⟨id,ld,ep,vr,isr,reps,add,rem,mn⟩=true→(1≤ep∧ep≤1000000000)∧(1≤vr∧vr≤1000000000)):=fun e=>⟨(rightB_iff.1 e).epoch,(rightB_iff.1 e).ver⟩
 have G40:Hid (∀ W,Below w.heap.size w W→Calls Tryz.prog 128 #[.slice ma il.length mc] W fun e w'=>e=.returned (.bool (idsB il))∧Below W.heap.size W w'):=fun W hb=>rids_any (QM.out.under hb)
 have G42:Hid (∀ W,Below w.heap.size w W→Calls Tryz.prog 83 #[.slice ma il.length mc,.int .i64 l] W fun e w'=>e=.returned (.bool (hasB il l))∧W=w'):=fun W hb=>rhas_any (QM.out.under hb) l hl
 have G41:Hid (∀ W,Below w.heap.size w W→Calls Tryz.prog 129 #[.slice ma il.length mc,.slice a2 reps.length c2] W fun e w'=>e=.returned (.bool (il.all (hasB reps)))∧Below W.heap.size W w'):=fun W hb=>rpart_any (QM.out.under hb) (Q2.out.under hb)
 have G63:Hid (∀ W,Below w.heap.size w W→Calls Tryz.prog 130 #[.slice ma il.length mc,.slice a1 isr.length c1] W fun e w'=>∃ ra rc,e=.returned (.slice ra (outL il isr).length rc)∧IL w' (.slice ra (outL il isr).length rc) (outL il isr)∧Below W.heap.size W w'):=fun W hb=>(rout_sl (QM.out.under hb) (Q1.out.under hb)).mono fun e w' ⟨ra,rc,e1,e2,e3,e4⟩=>⟨ra,rc,e1,e2,e4⟩
 have G63b:Hid (∀ W ra rc,Below w.heap.size w W→IL W (.slice ra (outL il isr).length rc) (outL il isr)→Calls Tryz.prog 130 #[.slice ra (outL il isr).length rc,.slice ua up.length uc] W fun e w'=>∃ sa sc,e=.returned (.slice sa (outL (outL il isr) up).length sc)∧Below W.heap.size W w'):=fun W ra rc hb h1=>(rout_sl h1 (QU.out.under hb)).mono fun e w' ⟨sa,sc,e1,e2,e3,e4⟩=>⟨sa,sc,e1,e4⟩
 have G43:Hid (∀ W x2 y2,Below w.heap.size w W→IL W (.slice x2 reps.length y2) reps→Calls Tryz.prog 131 #[.slice x2 reps.length y2,.slice ma il.length mc] W fun e w'=>∃ ra rc,e=.returned (.slice ra (inL reps il).length rc)∧IL w' (.slice ra (inL reps il).length rc) (inL reps il)∧In (fun b=>W.heap.size≤b) (.slice ra (inL reps il).length rc) (inL reps il)∧Below W.heap.size W w'):=fun W x2 y2 hb h1=>rin_sl h1 (QM.out.under hb)
 have HZ:=hid (out_len (outL il isr) up)
 generalize alterP ⟨id,ld,ep,vr,isr,reps,add,rem,mn⟩ l e0 v0 il up=r at *
 generalize rightB ⟨id,ld,ep,vr,isr,reps,add,rem,mn⟩=B1 at *
 generalize idsB il=B2 at *
 generalize hasB il l=B3 at *
 generalize il.all (hasB reps)=B4 at *
 generalize (outL il isr).all (hasB up)=B5 at *
 generalize outL (outL il isr) up=X at *
 generalize outL il isr=Y at *
 generalize inL reps il=I at *
 clear i0 i1 i2 i3 i4 Q1 Q2 Q3 Q4 QU hu QM hm
 go_enter Tryz.func79,Tryz.ntmps79
 go_wp2_with fail
 generalize (w.alloc (.cells (PL id ld ep vr a1 isr c1 a2 reps c2 a3 add c3 a4 rem c4 mn) 54)).alloc (.cells PZ 54)=W0 at *
 refine (G13.out _ HT0.out.b).mono ?_
 rintro e W1 ⟨rfl,hb⟩
 have HT1:=hid (HT0.out.next hb)
 clear hb
 obtain ⟨k0,k1,k2,k3,k4,k5,k6,k7,k8⟩:=cells9 HT1.out.x
 obtain ⟨z0,z1,z2,z3,z4,z5,z6,z7,z8⟩:=cells9 HT1.out.z
 have fx:=frz_blk HT1.out.x
 have fz:=frz_blk HT1.out.z
 cases B1
 ·have HR:Hid (r=(Pt.zero,1)):=HE0.out rfl
  go_wp2_with fail
  exact leaf9 HT1.out rfl Tryz.results79 (n:=.int .i64 1) rfl rfl rfl fun W9 HT9 hsz9 HOFF=>(by rw [HR.out];exact res_err _ HT9.out.b)
 obtain ⟨hep,hvr⟩:=HBD.out rfl
 have HE2:=hid (HE.out rfl)
 clear HE HE0 HBD
 by_cases h1:e0<ep
 ·have HR:Hid (r=(Pt.zero,13)):=by show _=_;rw [HE2.out,if_pos (.inl h1)]
  go_wp2_with fail
  exact leaf9 HT1.out rfl Tryz.results79 (n:=.int .i64 13) rfl rfl rfl fun W9 HT9 hsz9 HOFF=>(by rw [HR.out];exact res_err _ HT9.out.b)
 by_cases h2:ep<e0
 ·have HR:Hid (r=(Pt.zero,14)):=by show _=_;rw [HE2.out,if_neg (fun e=>by omega),if_pos (.inl h2)]
  have c1:(e0 == ep)=false:=beq_eq_false_iff_ne.2 (by omega)
  go_wp2_with fail
  exact leaf9 HT1.out rfl Tryz.results79 (n:=.int .i64 14) rfl rfl rfl fun W9 HT9 hsz9 HOFF=>(by rw [HR.out];exact res_err _ HT9.out.b)
 have c1:(e0 == ep)=true:=beq_iff_eq.2 (by omega)
 by_cases h3:v0<vr
 ·have HR:Hid (r=(Pt.zero,13)):=by show _=_;rw [HE2.out,if_pos (.inr ⟨by omega,h3⟩)]
  go_wp2_with fail
  exact leaf9 HT1.out rfl Tryz.results79 (n:=.int .i64 13) rfl rfl rfl fun W9 HT9 hsz9 HOFF=>(by rw [HR.out];exact res_err _ HT9.out.b)
 by_cases h4:vr<v0
 ·have HR:Hid (r=(Pt.zero,14)):=by show _=_;rw [HE2.out,if_neg (fun e=>by omega),if_pos (.inr h4)]
  go_wp2_with fail
  exact leaf9 HT1.out rfl Tryz.results79 (n:=.int .i64 14) rfl rfl rfl fun W9 HT9 hsz9 HOFF=>(by rw [HR.out];exact res_err _ HT9.out.b)
 have HE3:=hid (HE2.out)
 rw [if_neg (fun e=>by omega),if_neg (fun e=>by omega)] at HE3
 clear HE2
 by_cases h5:l=0
 ·have c2:(l == 0)=true:=beq_iff_eq.2 h5
  have HR:Hid (r=(Pt.zero,19)):=by show _=_;rw [HE3.out,if_pos (.inl h5)]
  clear h5
  go_wp2_with fail
  exact leaf9 HT1.out rfl Tryz.results79 (n:=.int .i64 19) rfl rfl rfl fun W9 HT9 hsz9 HOFF=>(by rw [HR.out];exact res_err _ HT9.out.b)
 have c2:(l == 0)=false:=beq_eq_false_iff_ne.2 h5
 by_cases h6:l=ld
 case neg =>
  have c3:(l != ld)=true:=by simp [h6]
  have HR:Hid (r=(Pt.zero,19)):=by show _=_;rw [HE3.out,if_pos (.inr h6)]
  clear h6
  go_wp2_with fail
  exact leaf9 HT1.out rfl Tryz.results79 (n:=.int .i64 19) rfl rfl rfl fun W9 HT9 hsz9 HOFF=>(by rw [HR.out];exact res_err _ HT9.out.b)
 have c3:(l != ld)=false:=by simp [h6]
 have HE4:=hid (HE3.out)
 rw [if_neg (fun e=>e.elim h5 (fun h=>h h6))] at HE4
 clear HE3 h5 h6
 go_wp2_with fail
 refine (G40.out _ HT1.out.b).mono ?_
 rintro e V2 ⟨rfl,hb⟩
 have HT2:=hid (HT1.out.next hb)
 clear hb HT1 k0 k1 k2 k3 k4 k5 k6 k7 k8 z0 z1 z2 z3 z4 z5 z6 z7 z8 fx fz
 obtain ⟨k0,k1,k2,k3,k4,k5,k6,k7,k8⟩:=cells9 HT2.out.x
 obtain ⟨z0,z1,z2,z3,z4,z5,z6,z7,z8⟩:=cells9 HT2.out.z
 have fx:=frz_blk HT2.out.x
 have fz:=frz_blk HT2.out.z
 go_wp2_with fail
 refine (G42.out _ HT2.out.b).mono ?_
 rintro e V3 ⟨rfl,rfl⟩
 go_wp2_with fail
 refine (G41.out _ HT2.out.b).mono ?_
 rintro e V3 ⟨rfl,hb⟩
 have HT3:=hid (HT2.out.next hb)
 clear hb HT2 k0 k1 k2 k3 k4 k5 k6 k7 k8 z0 z1 z2 z3 z4 z5 z6 z7 z8 fx fz
 obtain ⟨k0,k1,k2,k3,k4,k5,k6,k7,k8⟩:=cells9 HT3.out.x
 obtain ⟨z0,z1,z2,z3,z4,z5,z6,z7,z8⟩:=cells9 HT3.out.z
 have fx:=frz_blk HT3.out.x
 have fz:=frz_blk HT3.out.z
 cases B2
 ·have HR:Hid (r=(Pt.zero,1)):=by show _=_;rw [HE4.out];simp
  go_wp2_with fail
  exact leaf9 HT3.out rfl Tryz.results79 (n:=.int .i64 1) rfl rfl rfl fun W9 HT9 hsz9 HOFF=>(by rw [HR.out];exact res_err _ HT9.out.b)
 cases B3
 ·have HR:Hid (r=(Pt.zero,1)):=by show _=_;rw [HE4.out];simp
  go_wp2_with fail
  exact leaf9 HT3.out rfl Tryz.results79 (n:=.int .i64 1) rfl rfl rfl fun W9 HT9 hsz9 HOFF=>(by rw [HR.out];exact res_err _ HT9.out.b)
 cases B4
 ·have HR:Hid (r=(Pt.zero,1)):=by show _=_;rw [HE4.out];simp
  go_wp2_with fail
  exact leaf9 HT3.out rfl Tryz.results79 (n:=.int .i64 1) rfl rfl rfl fun W9 HT9 hsz9 HOFF=>(by rw [HR.out];exact res_err _ HT9.out.b)
 go_wp2_with fail
 refine (G63.out _ HT3.out.b).mono ?_
 rintro e V4 ⟨ra,rc,rfl,hY,hb⟩
 have HY:=hid hY
 clear hY
 have HT4:=hid (HT3.out.next hb)
 clear hb HT3 k0 k1 k2 k3 k4 k5 k6 k7 k8 z0 z1 z2 z3 z4 z5 z6 z7 z8 fx fz
 obtain ⟨k0,k1,k2,k3,k4,k5,k6,k7,k8⟩:=cells9 HT4.out.x
 obtain ⟨z0,z1,z2,z3,z4,z5,z6,z7,z8⟩:=cells9 HT4.out.z
 have fx:=frz_blk HT4.out.x
 have fz:=frz_blk HT4.out.z
 go_wp2_with fail
 refine (G63b.out _ _ _ HT4.out.b HY.out).mono ?_
 rintro e V5 ⟨sa,sc,rfl,hb⟩
 have HT5:=hid (HT4.out.next hb)
 clear hb HT4 k0 k1 k2 k3 k4 k5 k6 k7 k8 z0 z1 z2 z3 z4 z5 z6 z7 z8 fx fz
 obtain ⟨k0,k1,k2,k3,k4,k5,k6,k7,k8⟩:=cells9 HT5.out.x
 obtain ⟨z0,z1,z2,z3,z4,z5,z6,z7,z8⟩:=cells9 HT5.out.z
 have fx:=frz_blk HT5.out.x
 have fz:=frz_blk HT5.out.z
 cases B5
 ·have HR:Hid (r=(Pt.zero,1)):=by show _=_;rw [HE4.out];simp
  have hX:0<X.length:=by have:=of_decide_eq_false HZ.out;omega
  go_wp2_with fail
  exact leaf9 HT5.out rfl Tryz.results79 (n:=.int .i64 1) rfl rfl rfl fun W9 HT9 hsz9 HOFF=>(by rw [HR.out];exact res_err _ HT9.out.b)
 have HR:Hid (r=verP ⟨id,ld,ep,vr,I,reps,add,rem,mn⟩):=by show _=_;rw [HE4.out];simp
 have hX:X.length=0:=of_decide_eq_true HZ.out
 have hX2:¬ 0<X.length:=by omega
 clear hX HZ HE4 HY
 have HT1:=HT5
 clear HT5
 go_wp2_with fail
 refine (G60.out _ HT1.out.b).mono ?_
 rintro e W2 ⟨v',rfl,h1,h2,hb⟩
 have h2':=h2.mono (Y:=fun b=>w.heap.size+2≤b) fun b hx=>Nat.le_trans HT1.out.s hx
 obtain ⟨x1,y1,x2,y2,x3,y3,x4,y4,rfl,q1,q2,q3,q4,ii⟩:=h1.open
 obtain ⟨n1,n2,n3,n4⟩:=h2' _ _ _ _ _ _ _ _ _ rfl
 simp only at q1 q2 q3 q4 n1 n2 n3 n4 ii
 have HT2:=hid (HT1.out.next hb)
 have LN:=hid (And.intro n1 (And.intro n2 (And.intro n3 n4)))
 have LB:Hid (IA w W2 (.slice x1 isr.length y1) isr∧IA w W2 (.slice x2 reps.length y2) reps∧IA w W2 (.slice x3 add.length y3) add∧IA w W2 (.slice x4 rem.length y4) rem):=⟨⟨q1,n1.mono fun b hx=>.inr hx⟩,⟨q2,n2.mono fun b hx=>.inr hx⟩,⟨q3,n3.mono fun b hx=>.inr hx⟩,⟨q4,n4.mono fun b hx=>.inr hx⟩⟩
 have HI:=hid ii
 clear q1 q2 q3 q4 n1 n2 n3 n4 ii h1 h2 h2' hb k0 k1 k2 k3 k4 k5 k6 k7 k8 z0 z1 z2 z3 z4 z5 z6 z7 z8 fx fz
 obtain ⟨k0,k1,k2,k3,k4,k5,k6,k7,k8⟩:=cells9 HT2.out.x
 obtain ⟨z0,z1,z2,z3,z4,z5,z6,z7,z8⟩:=cells9 HT2.out.z
 have fx:=frz_blk HT2.out.x
 have fz:=frz_blk HT2.out.z
 go_upto_region 16 with fail
 have HT3:=hid (nine_x HT2.out rfl (.int .i64 id) (.int .i64 ld) (.int .i64 ep) (.int .i64 vr) (.slice x1 isr.length y1) (.slice x2 reps.length y2) (.slice x3 add.length y3) (.slice x4 rem.length y4) (.int .i64 mn))
 have LA:=hid (And.intro (LB.out.1.nine (.int .i64 id) (.int .i64 ld) (.int .i64 ep) (.int .i64 vr) (.slice x1 isr.length y1) (.slice x2 reps.length y2) (.slice x3 add.length y3) (.slice x4 rem.length y4) (.int .i64 mn)) (And.intro (LB.out.2.1.nine (.int .i64 id) (.int .i64 ld) (.int .i64 ep) (.int .i64 vr) (.slice x1 isr.length y1) (.slice x2 reps.length y2) (.slice x3 add.length y3) (.slice x4 rem.length y4) (.int .i64 mn)) (And.intro (LB.out.2.2.1.nine (.int .i64 id) (.int .i64 ld) (.int .i64 ep) (.int .i64 vr) (.slice x1 isr.length y1) (.slice x2 reps.length y2) (.slice x3 add.length y3) (.slice x4 rem.length y4) (.int .i64 mn)) (LB.out.2.2.2.nine (.int .i64 id) (.int .i64 ld) (.int .i64 ep) (.int .i64 vr) (.slice x1 isr.length y1) (.slice x2 reps.length y2) (.slice x3 add.length y3) (.slice x4 rem.length y4) (.int .i64 mn)))))
 clear k0 k1 k2 k3 k4 k5 k6 k7 k8 z0 z1 z2 z3 z4 z5 z6 z7 z8 fx fz LB HT2 HT1
 generalize (((((((((W2.setCell ⟨w.heap.size,0,none⟩ (.int .i64 id)).setCell ⟨w.heap.size,1,none⟩ (.int .i64 ld)).setCell ⟨w.heap.size,2,none⟩ (.int .i64 ep)).setCell ⟨w.heap.size,3,none⟩ (.int .i64 vr)).setCell ⟨w.heap.size,4,none⟩ (.slice x1 isr.length y1)).setCell ⟨w.heap.size,5,none⟩ (.slice x2 reps.length y2)).setCell ⟨w.heap.size,6,none⟩ (.slice x3 add.length y3)).setCell ⟨w.heap.size,7,none⟩ (.slice x4 rem.length y4)).setCell ⟨w.heap.size,8,none⟩ (.int .i64 mn))=W3 at *
 obtain ⟨k0,k1,k2,k3,k4,k5,k6,k7,k8⟩:=cells9 HT3.out.x
 obtain ⟨z0,z1,z2,z3,z4,z5,z6,z7,z8⟩:=cells9 HT3.out.z
 have fx:=frz_blk HT3.out.x
 have fz:=frz_blk HT3.out.z
 have L:Hid (NW w W3 (.slice x1 isr.length y1) isr∧NW w W3 (.slice x2 reps.length y2) reps∧NW w W3 (.slice x3 add.length y3) add∧NW w W3 (.slice x4 rem.length y4) rem):=⟨⟨LA.out.1.1,LN.out.1⟩,⟨LA.out.2.1.1,LN.out.2.1⟩,⟨LA.out.2.2.1.1,LN.out.2.2.1⟩,⟨LA.out.2.2.2.1,LN.out.2.2.2⟩⟩
 clear LA LN
 go_wp2_with fail
 refine (G43.out _ _ _ HT3.out.b L.out.2.1.1).mono ?_
 rintro e W4 ⟨ra,rc,rfl,h1,h2,hb⟩
 have HT4:=hid (HT3.out.next hb)
 have L4:Hid (NW w W4 (.slice x1 isr.length y1) isr∧NW w W4 (.slice x2 reps.length y2) reps∧NW w W4 (.slice x3 add.length y3) add∧NW w W4 (.slice x4 rem.length y4) rem):=⟨L.out.1.under hb,L.out.2.1.under hb,L.out.2.2.1.under hb,L.out.2.2.2.under hb⟩
 have LR:=hid (nw_new (w:=w) h1 h2 HT3.out.s)
 clear h1 h2 hb HT3 L k0 k1 k2 k3 k4 k5 k6 k7 k8 z0 z1 z2 z3 z4 z5 z6 z7 z8 fx fz
 obtain ⟨k0,k1,k2,k3,k4,k5,k6,k7,k8⟩:=cells9 HT4.out.x
 obtain ⟨z0,z1,z2,z3,z4,z5,z6,z7,z8⟩:=cells9 HT4.out.z
 have fx:=frz_blk HT4.out.x
 have fz:=frz_blk HT4.out.z
 go_upto_region 17 with fail
 have HT5:Hid (TwoB w (W4.setCell ⟨w.heap.size,4,none⟩ (.slice ra I.length rc)) (PL id ld ep vr ra I rc x2 reps y2 x3 add y3 x4 rem y4 mn) PZ):=HT4.out.setx 4 (.slice ra I.length rc)
 have L5:Hid (NW w (W4.setCell ⟨w.heap.size,4,none⟩ (.slice ra I.length rc)) (.slice ra I.length rc) I∧NW w (W4.setCell ⟨w.heap.size,4,none⟩ (.slice ra I.length rc)) (.slice x2 reps.length y2) reps∧NW w (W4.setCell ⟨w.heap.size,4,none⟩ (.slice ra I.length rc)) (.slice x3 add.length y3) add∧NW w (W4.setCell ⟨w.heap.size,4,none⟩ (.slice ra I.length rc)) (.slice x4 rem.length y4) rem):=⟨(LR.out).set 4 (.slice ra I.length rc),L4.out.2.1.set 4 (.slice ra I.length rc),L4.out.2.2.1.set 4 (.slice ra I.length rc),L4.out.2.2.2.set 4 (.slice ra I.length rc)⟩
 clear HT4 L4 k0 k1 k2 k3 k4 k5 k6 k7 k8 z0 z1 z2 z3 z4 z5 z6 z7 z8 fx fz
 generalize W4.setCell ⟨w.heap.size,4,none⟩ (.slice ra I.length rc)=W5 at *
 obtain ⟨k0,k1,k2,k3,k4,k5,k6,k7,k8⟩:=cells9 HT5.out.x
 obtain ⟨z0,z1,z2,z3,z4,z5,z6,z7,z8⟩:=cells9 HT5.out.z
 have fx:=frz_blk HT5.out.x
 have fz:=frz_blk HT5.out.z
 have GC:=hid (rchanged_any (X:=fun b=>w.heap.size+2≤b) (w:=W5) (v:=.agg (PL id ld ep vr ra I rc x2 reps y2 x3 add y3 x4 rem y4 mn)) (p:=⟨id,ld,ep,vr,I,reps,add,rem,mn⟩) ⟨_,_,_,_,rfl,L5.out.1.1,L5.out.2.1.1,L5.out.2.2.1.1,L5.out.2.2.2.1,HI.out⟩ (inP_of L5.out.1.2 L5.out.2.1.2 L5.out.2.2.1.2 L5.out.2.2.2.2) hvr)
 generalize verP ⟨id,ld,ep,vr,I,reps,add,rem,mn⟩=r2 at *
 obtain ⟨⟨rid,rld,rep,rvr,rl1,rl2,rl3,rl4,rmn⟩,re⟩:=r2
 go_wp2_with fail
 refine GC.out.mono ?_
 rintro e W8 ⟨v',rfl,h1,h2,hb⟩
 obtain ⟨g1,j1,g2,j2,g3,j3,g4,j4,rfl,q1,q2,q3,q4,ii⟩:=h1.open
 obtain ⟨n1,n2,n3,n4⟩:=h2 _ _ _ _ _ _ _ _ _ rfl
 simp only at q1 q2 q3 q4 n1 n2 n3 n4 ii
 have HT8:=hid (HT5.out.next hb)
 have HL:Hid (IA w W8 (.slice g1 rl1.length j1) rl1∧IA w W8 (.slice g2 rl2.length j2) rl2∧IA w W8 (.slice g3 rl3.length j3) rl3∧IA w W8 (.slice g4 rl4.length j4) rl4):=⟨⟨q1,n1.mono fun b hx=>.inr hx⟩,⟨q2,n2.mono fun b hx=>.inr hx⟩,⟨q3,n3.mono fun b hx=>.inr hx⟩,⟨q4,n4.mono fun b hx=>.inr hx⟩⟩
 have HN:Hid (InP (fun b=>w.heap.size≤b) (.agg (PL rid rld rep rvr g1 rl1 j1 g2 rl2 j2 g3 rl3 j3 g4 rl4 j4 rmn)) ⟨rid,rld,rep,rvr,rl1,rl2,rl3,rl4,rmn⟩):=h2.mono fun b hx=>by omega
 have HI2:=hid ii
 clear q1 q2 q3 q4 n1 n2 n3 n4 ii h1 h2 hb k0 k1 k2 k3 k4 k5 k6 k7 k8 z0 z1 z2 z3 z4 z5 z6 z7 z8 fx fz
 obtain ⟨k0,k1,k2,k3,k4,k5,k6,k7,k8⟩:=cells9 HT8.out.x
 obtain ⟨z0,z1,z2,z3,z4,z5,z6,z7,z8⟩:=cells9 HT8.out.z
 have fx:=frz_blk HT8.out.x
 have fz:=frz_blk HT8.out.z
 go_wp2_with fail
 exact leaf9 HT8.out rfl Tryz.results79 (n:=.int .i64 re) rfl rfl rfl fun W9 HT9 hsz9 HOFF=>(by rw [HR.out];exact ⟨_,rfl,⟨_,_,_,_,rfl,HL.out.1.offz HOFF.out hsz9,HL.out.2.1.offz HOFF.out hsz9,HL.out.2.2.1.offz HOFF.out hsz9,HL.out.2.2.2.offz HOFF.out hsz9,HI2.out⟩,HN.out,HT9.out.b⟩)
end Go.Proofs.YtcffomhcmilcpaaGreat
