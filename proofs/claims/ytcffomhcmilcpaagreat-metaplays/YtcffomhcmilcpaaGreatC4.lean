/- Begin. -/
import Derived.Test.YtcffomhcmilcpaaGreatC3
import Derived.Test.YtcffomhcmilcpaaGreatC0
import Derived.Maps.OwnSet
import Derived.Maps.RangeWalk
import Derived.Maps.Ext
import Derived.Deep.RegionHeld3
import Derived.Deep.AppendLies
import Derived.Shelf.SlIterI.Nil
import Derived.Shelf.SortM.Plain
import Derived.Shelf.SortM.SortNone
import Derived.Shelf.SlGeneric
import Derived.Ground.GgzProg
import Derived.Ground.SlgmProg
import Derived.Test.YtcffomhcmilcpaaGreatProg
import Derived.Lib.SlKeysI
import Derived.Lib.SliceRun
set_option maxRecDepth 100000
set_option maxHeartbeats 20000000
set_option linter.unusedVariables false
set_option linter.unusedSimpArgs false
namespace Go.Proofs.YtcffomhcmilcpaaGreat
open Go.RowKit Go.Maps
theorem begin_any {w:World} {v m u:Value} {p:Pt} {t up:List Int} (h:PartM w v p) (hm:IL w m t) (hu:IL w u up) :
  Calls Tryz.prog 184 #[v,m,u] w fun e w'=>Res (fun b=>w.heap.size≤b) w (beginP p t up) e w':=by
 obtain ⟨id,ld,ep,vr,isr,reps,add,rem,mn⟩:=p
 obtain ⟨a1,c1,a2,c2,a3,c3,a4,c4,rfl,q1,q2,q3,q4,i0,i1,i2,i3,i4⟩:=h.open
 simp only at q1 q2 q3 q4 i0 i1 i2 i3 i4 ⊢
 have Q1:=hid q1
 have Q2:=hid q2
 have Q3:=hid q3
 have Q4:=hid q4
 clear h q1 q2 q3 q4
 obtain ⟨ma,mc,rfl,_⟩:=hm.shape
 obtain ⟨ua,uc,rfl,_⟩:=hu.shape
 have QM:=hid hm
 have QU:=hid hu
 have HT0:=hid (two_new w (PL id ld ep vr a1 isr c1 a2 reps c2 a3 add c3 a4 rem c4 mn) PZ)
 have HP:Hid (∀ W,Below w.heap.size w W→PartM W (.agg (PL id ld ep vr a1 isr c1 a2 reps c2 a3 add c3 a4 rem c4 mn)) ⟨id,ld,ep,vr,isr,reps,add,rem,mn⟩):=fun W hb=>⟨_,_,_,_,rfl,Q1.out.under hb,Q2.out.under hb,Q3.out.under hb,Q4.out.under hb,i0,i1,i2,i3,i4⟩
 have G12:Hid (∀ W,Below w.heap.size w W→Calls Tryz.prog 96 #[.agg (PL id ld ep vr a1 isr c1 a2 reps c2 a3 add c3 a4 rem c4 mn)] W fun e w'=>e=.returned (.bool (rightB ⟨id,ld,ep,vr,isr,reps,add,rem,mn⟩))∧Below W.heap.size W w'):=fun W hb=>right_any ⟨_,_,_,_,rfl,Q1.out.under hb,Q2.out.under hb,Q3.out.under hb,Q4.out.under hb,i0,i1,i2,i3,i4⟩
 have G15:Hid (∀ W,Below w.heap.size w W→Calls Tryz.prog 62 #[.agg (PL id ld ep vr a1 isr c1 a2 reps c2 a3 add c3 a4 rem c4 mn)] W fun e w'=>∃ v',e=.returned v'∧PartM w' v' ⟨id,ld,ep,vr,isr,reps,add,rem,mn⟩∧InP (fun b=>W.heap.size≤b) v' ⟨id,ld,ep,vr,isr,reps,add,rem,mn⟩∧Below W.heap.size W w'):=fun W hb=>clone_any ⟨_,_,_,_,rfl,Q1.out.under hb,Q2.out.under hb,Q3.out.under hb,Q4.out.under hb,i0,i1,i2,i3,i4⟩
 have G47:Hid (∀ W,TwoB w W (PL id ld ep vr a1 isr c1 a2 reps c2 a3 add c3 a4 rem c4 mn) PZ→Calls Tryz.prog 201 #[.slice ma t.length mc] W fun e w'=>e=.returned (.bool (mayB t))∧TwoB w w' (PL id ld ep vr a1 isr c1 a2 reps c2 a3 add c3 a4 rem c4 mn) PZ):=fun W hT=>(mayT_any (QM.out.under hT.b)).mono fun e w' ⟨e1,e2⟩=>⟨e1,hT.next e2⟩
 have G48:Hid (∀ W,TwoB w W (PL id ld ep vr a1 isr c1 a2 reps c2 a3 add c3 a4 rem c4 mn) PZ→Calls Tryz.prog 202 #[.agg (PL id ld ep vr a1 isr c1 a2 reps c2 a3 add c3 a4 rem c4 mn)] W fun e w'=>e=.returned (.bool (movingB ⟨id,ld,ep,vr,isr,reps,add,rem,mn⟩))∧TwoB w w' (PL id ld ep vr a1 isr c1 a2 reps c2 a3 add c3 a4 rem c4 mn) PZ):=fun W hT=>(moving_any (HP.out W hT.b)).mono fun e w' ⟨e1,e2⟩=>⟨e1,hT.next e2⟩
 have GA:Hid (∀ W,TwoB w W (PL id ld ep vr a1 isr c1 a2 reps c2 a3 add c3 a4 rem c4 mn) PZ→Calls Tryz.prog 181 #[.slice ma t.length mc,.func (.func 158) #[] #[],.slice a2 reps.length c2] W fun e w'=>∃ aa ac,e=.returned (.slice aa (outL t reps).length ac)∧IL w' (.slice aa (outL t reps).length ac) (outL t reps)∧In (fun b=>w.heap.size+2≤b) (.slice aa (outL t reps).length ac) (outL t reps)∧TwoB w w' (PL id ld ep vr a1 isr c1 a2 reps c2 a3 add c3 a4 rem c4 mn) PZ):=fun W hT=>(those50_any (QM.out.under hT.b) (Q2.out.under hT.b)).mono fun e w' ⟨v',e1,e2,e3,e4⟩=>by obtain ⟨aa,ac,rfl,_⟩:=e2.shape;exact ⟨aa,ac,e1,e2,e3.mono fun b hb=>Nat.le_trans hT.s hb,hT.next e4⟩
 have G51:Hid (∀ W aa ac,IL W (.slice aa (outL t reps).length ac) (outL t reps)→Below w.heap.size w W→Calls Tryz.prog 169 #[.slice aa (outL t reps).length ac,.func (.func 138) #[] #[],.slice ua up.length uc] W fun e w'=>e=.returned (.bool ((outL t reps).all (hasB up)))∧W=w'):=fun W aa ac h1 hb=>areAll39_any h1 (QU.out.under hb)
 have G44:Hid (∀ W,Below w.heap.size w W→Calls Tryz.prog 203 #[.slice a2 reps.length c2,.slice ma t.length mc] W fun e w'=>e=.returned (.bool (decide (reps=t)))∧Below W.heap.size W w'):=fun W hb=>equal_any (Q2.out.under hb) (QM.out.under hb)
 have GR:Hid (∀ W,Below w.heap.size w W→Calls Tryz.prog 181 #[.slice a2 reps.length c2,.func (.func 158) #[] #[],.slice ma t.length mc] W fun e w'=>∃ v',e=.returned v'∧IL w' v' (outL reps t)∧In (fun b=>W.heap.size≤b) v' (outL reps t)∧Below W.heap.size W w'):=fun W hb=>those50_any (Q2.out.under hb) (QM.out.under hb)
 have HE:Hid (beginP ⟨id,ld,ep,vr,isr,reps,add,rem,mn⟩ t up=if !rightB ⟨id,ld,ep,vr,isr,reps,add,rem,mn⟩ || !mayB t then (Pt.zero,1) else if movingB ⟨id,ld,ep,vr,isr,reps,add,rem,mn⟩ then (Pt.zero,19) else if !(outL t reps).all (hasB up) then (Pt.zero,8) else if reps=t then (⟨id,ld,ep,vr,isr,reps,add,rem,mn⟩,0) else changedP ⟨id,ld,ep,vr,isr,t++outL reps t,outL t reps,outL reps t,mn⟩ ld):=rfl
 have HBD:Hid (rightB ⟨id,ld,ep,vr,isr,reps,add,rem,mn⟩=true→((1≤ep∧ep≤1000000000)∧(1≤vr∧vr≤1000000000))∧(outL reps t).length≤7):=fun e=>⟨⟨(rightB_iff.1 e).epoch,(rightB_iff.1 e).ver⟩,Nat.le_trans (len_outL _ _) (ids_len (rightB_iff.1 e).reps)⟩
 have HMB:Hid (mayB t=true→1≤t.length∧t.length≤5):=fun e=>by
  have:=(Bool.and_eq_true_iff.1 e).1
  have:=upB_iff.1 this
  omega
 have HI:Hid (I64 id∧I64 ld∧I64 ep∧I64 vr∧I64 mn):=⟨i0,i1,i2,i3,i4⟩
 have QM2:=hid QM.out.shape
 generalize beginP ⟨id,ld,ep,vr,isr,reps,add,rem,mn⟩ t up=r at *
 generalize hA:(outL t reps).all (hasB up)=B4 at *
 generalize outL t reps=A at *
 generalize outL reps t=R at *
 generalize hCC:t++R=C at *
 have HCC:=hid hCC
 clear hCC
 generalize rightB ⟨id,ld,ep,vr,isr,reps,add,rem,mn⟩=B1 at *
 generalize mayB t=B2 at *
 generalize movingB ⟨id,ld,ep,vr,isr,reps,add,rem,mn⟩=B3 at *
 generalize hD:decide (reps=t)=B5 at *
 have HD:=hid hD
 clear hA hD HP QU hm hu i0 i1 i2 i3 i4 Q1 Q2 Q3 Q4
 go_enter Tryz.func184,Tryz.ntmps184
 go_wp2_with fail
 generalize (w.alloc (.cells (PL id ld ep vr a1 isr c1 a2 reps c2 a3 add c3 a4 rem c4 mn) 54)).alloc (.cells PZ 54)=W0 at *
 refine (G12.out _ HT0.out.b).mono ?_
 rintro e W1 ⟨rfl,hb⟩
 have HT1:=hid (HT0.out.next hb)
 clear hb
 obtain ⟨k0,k1,k2,k3,k4,k5,k6,k7,k8⟩:=cells9 HT1.out.x
 obtain ⟨z0,z1,z2,z3,z4,z5,z6,z7,z8⟩:=cells9 HT1.out.z
 have fx:=frz_blk HT1.out.x
 have fz:=frz_blk HT1.out.z
 cases B1
 ·have HR:Hid (r=(Pt.zero,1)):=by show _=_;rw [HE.out];simp
  go_wp2_with fail
  exact leaf9 HT1.out rfl Tryz.results184 (n:=.int .i64 1) rfl rfl rfl fun W9 HT9 hsz9 HOFF=>(by rw [HR.out];exact res_err _ HT9.out.b)
 obtain ⟨⟨hep,hvr⟩,hR7⟩:=HBD.out rfl
 go_wp2_with fail
 refine (G47.out _ HT1.out).mono ?_
 rintro e W2 ⟨rfl,t2⟩
 have HT2:=hid t2
 clear t2 k0 k1 k2 k3 k4 k5 k6 k7 k8 z0 z1 z2 z3 z4 z5 z6 z7 z8 fx fz
 obtain ⟨k0,k1,k2,k3,k4,k5,k6,k7,k8⟩:=cells9 HT2.out.x
 obtain ⟨z0,z1,z2,z3,z4,z5,z6,z7,z8⟩:=cells9 HT2.out.z
 have fx:=frz_blk HT2.out.x
 have fz:=frz_blk HT2.out.z
 cases B2
 ·have HR:Hid (r=(Pt.zero,1)):=by show _=_;rw [HE.out];simp
  go_wp2_with fail
  exact leaf9 HT2.out rfl Tryz.results184 (n:=.int .i64 1) rfl rfl rfl fun W9 HT9 hsz9 HOFF=>(by rw [HR.out];exact res_err _ HT9.out.b)
 obtain ⟨ht1,ht5⟩:=HMB.out rfl
 go_wp2_with fail
 refine (G48.out _ HT2.out).mono ?_
 rintro e W3 ⟨rfl,t2⟩
 have HT3:=hid t2
 clear t2 k0 k1 k2 k3 k4 k5 k6 k7 k8 z0 z1 z2 z3 z4 z5 z6 z7 z8 fx fz
 obtain ⟨k0,k1,k2,k3,k4,k5,k6,k7,k8⟩:=cells9 HT3.out.x
 obtain ⟨z0,z1,z2,z3,z4,z5,z6,z7,z8⟩:=cells9 HT3.out.z
 have fx:=frz_blk HT3.out.x
 have fz:=frz_blk HT3.out.z
 cases B3
 case true =>
  have HR:Hid (r=(Pt.zero,19)):=by show _=_;rw [HE.out];simp
  go_wp2_with fail
  exact leaf9 HT3.out rfl Tryz.results184 (n:=.int .i64 19) rfl rfl rfl fun W9 HT9 hsz9 HOFF=>(by rw [HR.out];exact res_err _ HT9.out.b)
 go_wp2_with fail
 refine (GA.out _ HT3.out).mono ?_
 rintro e W4 ⟨aa,ac,rfl,ia,na,t2⟩
 have HT4:=hid t2
 have IA4:=hid ia
 have NA:=hid na
 clear t2 ia na k0 k1 k2 k3 k4 k5 k6 k7 k8 z0 z1 z2 z3 z4 z5 z6 z7 z8 fx fz
 obtain ⟨k0,k1,k2,k3,k4,k5,k6,k7,k8⟩:=cells9 HT4.out.x
 obtain ⟨z0,z1,z2,z3,z4,z5,z6,z7,z8⟩:=cells9 HT4.out.z
 have fx:=frz_blk HT4.out.x
 have fz:=frz_blk HT4.out.z
 go_wp2_with fail
 refine (G51.out _ _ _ IA4.out HT4.out.b).mono ?_
 rintro e W5 ⟨rfl,rfl⟩
 cases B4
 ·have HR:Hid (r=(Pt.zero,8)):=by show _=_;rw [HE.out];simp
  go_wp2_with fail
  exact leaf9 HT4.out rfl Tryz.results184 (n:=.int .i64 8) rfl rfl rfl fun W9 HT9 hsz9 HOFF=>(by rw [HR.out];exact res_err _ HT9.out.b)
 have HE2:Hid (r=if reps=t then (⟨id,ld,ep,vr,isr,reps,add,rem,mn⟩,0) else changedP ⟨id,ld,ep,vr,isr,C,A,R,mn⟩ ld):=by show _=_;rw [HE.out];simp
 clear HE
 go_wp2_with fail
 refine (G15.out _ HT4.out.b).mono ?_
 rintro e W5 ⟨v',rfl,h1,h2,hb⟩
 have h2':=h2.mono (Y:=fun b=>w.heap.size+2≤b) fun b hx=>Nat.le_trans HT4.out.s hx
 obtain ⟨x1,y1,x2,y2,x3,y3,x4,y4,rfl,q1,q2,q3,q4,ii⟩:=h1.open
 obtain ⟨n1,n2,n3,n4⟩:=h2' _ _ _ _ _ _ _ _ _ rfl
 simp only at q1 q2 q3 q4 n1 n2 n3 n4 ii
 have HT5:=hid (HT4.out.next hb)
 have H3:=hid (three_new HT5.out (PL id ld ep vr x1 isr y1 x2 reps y2 x3 add y3 x4 rem y4 mn))
 have P1:=hid (ln_old q1 n1 (PL id ld ep vr x1 isr y1 x2 reps y2 x3 add y3 x4 rem y4 mn))
 have P2:=hid (ln_old q2 n2 (PL id ld ep vr x1 isr y1 x2 reps y2 x3 add y3 x4 rem y4 mn))
 have P3:=hid (ln_old q3 n3 (PL id ld ep vr x1 isr y1 x2 reps y2 x3 add y3 x4 rem y4 mn))
 have P4:=hid (ln_old q4 n4 (PL id ld ep vr x1 isr y1 x2 reps y2 x3 add y3 x4 rem y4 mn))
 have PA:=hid (ln_old (IA4.out.under hb) NA.out (PL id ld ep vr x1 isr y1 x2 reps y2 x3 add y3 x4 rem y4 mn))
 have hs4:=HT5.out.s
 clear q1 q2 q3 q4 n1 n2 n3 n4 ii h1 h2 h2' hb k0 k1 k2 k3 k4 k5 k6 k7 k8 z0 z1 z2 z3 z4 z5 z6 z7 z8 fx fz
 obtain ⟨k0,k1,k2,k3,k4,k5,k6,k7,k8⟩:=cells9 HT5.out.x
 obtain ⟨z0,z1,z2,z3,z4,z5,z6,z7,z8⟩:=cells9 HT5.out.z
 have fx:=frz_blk HT5.out.x
 have fz:=frz_blk HT5.out.z
 have hne:w.heap.size<W5.heap.size:=by omega
 go_wp2_with fail
 clear k0 k1 k2 k3 k4 k5 k6 k7 k8 z0 z1 z2 z3 z4 z5 z6 z7 z8 fx fz
 generalize W5.alloc (.cells (PL id ld ep vr x1 isr y1 x2 reps y2 x3 add y3 x4 rem y4 mn) 54)=W6 at *
 generalize W5.heap.size=q at *
 refine (G44.out _ H3.out.t.b).mono ?_
 rintro e W7 ⟨rfl,hb⟩
 have H7:=hid (H3.out.next hb)
 have HT7:=hid H7.out.t
 have M1:=hid (P1.out.under hb)
 have M2:=hid (P2.out.under hb)
 have M3:=hid (P3.out.under hb)
 have M4:=hid (P4.out.under hb)
 have MA:=hid (PA.out.under hb)
 clear hb P1 P2 P3 P4 PA
 obtain ⟨n0,n1,n2,n3,n4,n5,n6,n7,n8⟩:=cells9 H7.out.n
 have fn:=frz_blk H7.out.n
 obtain ⟨k0,k1,k2,k3,k4,k5,k6,k7,k8⟩:=cells9 HT7.out.x
 obtain ⟨z0,z1,z2,z3,z4,z5,z6,z7,z8⟩:=cells9 HT7.out.z
 have fx:=frz_blk HT7.out.x
 have fz:=frz_blk HT7.out.z
 cases B5
 case true =>
  have HR:Hid (r=(⟨id,ld,ep,vr,isr,reps,add,rem,mn⟩,0)):=by show _=_;rw [HE2.out,if_pos (of_decide_eq_true HD.out)]
  go_wp2_with fail
  exact leaf9 HT7.out rfl Tryz.results184 (n:=.int .i64 0) rfl rfl rfl fun W9 HT9 hsz9 HOFF=>(by rw [HR.out];exact ⟨_,rfl,⟨_,_,_,_,rfl,M1.out.ia.offz HOFF.out hsz9,M2.out.ia.offz HOFF.out hsz9,M3.out.ia.offz HOFF.out hsz9,M4.out.ia.offz HOFF.out hsz9,HI.out⟩,(inP_of (M1.out.in.mono fun b hb=>by omega) (M2.out.in.mono fun b hb=>by omega) (M3.out.in.mono fun b hb=>by omega) (M4.out.in.mono fun b hb=>by omega)),HT9.out.b⟩)
 have HR:Hid (r=changedP ⟨id,ld,ep,vr,isr,C,A,R,mn⟩ ld):=by show _=_;rw [HE2.out,if_neg (of_decide_eq_false HD.out)]
 clear HE2 HD
 have hnq:¬ q=w.heap.size:=by have:=H7.out.lo;omega
 have hnq2:¬ w.heap.size=q:=by have:=H7.out.lo;omega
 go_wp2_with fail
 have H8:Hid (ThreeB w (W7.setCell ⟨q,6,none⟩ (.slice aa A.length ac)) q (PL id ld ep vr a1 isr c1 a2 reps c2 a3 add c3 a4 rem c4 mn) PZ (PL id ld ep vr x1 isr y1 x2 reps y2 aa A ac x4 rem y4 mn)):=H7.out.setn 6 _
 have P1:=hid (M1.out.setn 6 (.slice aa A.length ac))
 have PA:=hid (MA.out.setn 6 (.slice aa A.length ac))
 clear k0 k1 k2 k3 k4 k5 k6 k7 k8 z0 z1 z2 z3 z4 z5 z6 z7 z8 fx fz n0 n1 n2 n3 n4 n5 n6 n7 n8 fn M1 M2 M3 M4 MA H7 HT7
 generalize W7.setCell ⟨q,6,none⟩ (.slice aa A.length ac)=W8 at *
 refine (GR.out _ H8.out.t.b).mono ?_
 rintro e W9 ⟨v',rfl,h1,h2,hb⟩
 obtain ⟨ra,rc,rfl,_⟩:=h1.shape
 have H9:=hid (H8.out.next hb)
 have MR:=hid (ln_new (w:=w) h1 h2 H8.out.hi H8.out.lo)
 have M1:=hid (P1.out.under hb)
 have MA:=hid (PA.out.under hb)
 clear h1 h2 hb P1 PA H8
 obtain ⟨n0,n1,n2,n3,n4,n5,n6,n7,n8⟩:=cells9 H9.out.n
 have fn:=frz_blk H9.out.n
 go_upto_region 13 with fail
 have H10:Hid (ThreeB w (W9.setCell ⟨q,7,none⟩ (.slice ra R.length rc)) q (PL id ld ep vr a1 isr c1 a2 reps c2 a3 add c3 a4 rem c4 mn) PZ (PL id ld ep vr x1 isr y1 x2 reps y2 aa A ac ra R rc mn)):=H9.out.setn 7 _
 have P1:=hid (M1.out.setn 7 (.slice ra R.length rc))
 have PA:=hid (MA.out.setn 7 (.slice ra R.length rc))
 have PR:=hid (MR.out.setn 7 (.slice ra R.length rc))
 clear n0 n1 n2 n3 n4 n5 n6 n7 n8 fn M1 MA MR H9
 generalize W9.setCell ⟨q,7,none⟩ (.slice ra R.length rc)=W10 at *
 obtain ⟨n0,n1,n2,n3,n4,n5,n6,n7,n8⟩:=cells9 H10.out.n
 obtain ⟨_,_,e9,_,_,_,h4⟩:=QM2.out
 cases e9
 obtain ⟨tb,toff,rfl,_⟩:=h4 (by intro e;rw [e] at ht1;simp at ht1)
 clear h4
 have hq10:q<W10.heap.size:=H10.out.hi
 go_wp2_with fail
 have HBA:Hid (Below W10.heap.size W10 (W10.alloc (.cells #[.slice (some ⟨tb,toff,none⟩) t.length mc,.slice ra R.length rc] 23))):=(Below.refl _ _).alloc (Nat.le_refl _) _
 have H11:=hid (H10.out.next HBA.out)
 have P1':=hid (P1.out.under HBA.out)
 have PA':=hid (PA.out.under HBA.out)
 have PR':=hid (PR.out.under HBA.out)
 have HG:Hid ((W10.alloc (.cells #[.slice (some ⟨tb,toff,none⟩) t.length mc,.slice ra R.length rc] 23)).heap[W10.heap.size]?=some (.cells #[.slice (some ⟨tb,toff,none⟩) t.length mc,.slice ra R.length rc] 23)):=heap_alloc_new _ _
 clear n0 n1 n2 n3 n4 n5 n6 n7 n8 P1 PA PR H10
 generalize W10.alloc (.cells #[.slice (some ⟨tb,toff,none⟩) t.length mc,.slice ra R.length rc] 23)=W11 at *
 have G52:=hid (concat_any (QM.out.under H11.out.t.b) PR'.out.1 HG.out ht1 (by omega))
 rw [HCC.out] at G52
 refine G52.out.mono ?_
 rintro e W12 ⟨v',rfl,h1,h2,hb⟩
 obtain ⟨ca,cc,rfl,_⟩:=h1.shape
 have H12:=hid (H11.out.next hb)
 have MC:=hid (ln_new (w:=w) h1 h2 H11.out.hi H11.out.lo)
 have M1:=hid (P1'.out.under hb)
 have MA:=hid (PA'.out.under hb)
 have MR:=hid (PR'.out.under hb)
 clear h1 h2 hb P1' PA' PR' H11 HG HBA
 obtain ⟨n0,n1,n2,n3,n4,n5,n6,n7,n8⟩:=cells9 H12.out.n
 have fn:=frz_blk H12.out.n
 go_upto_region 14 with fail
 have H13:Hid (ThreeB w (W12.setCell ⟨q,5,none⟩ (.slice ca C.length cc)) q (PL id ld ep vr a1 isr c1 a2 reps c2 a3 add c3 a4 rem c4 mn) PZ (PL id ld ep vr x1 isr y1 ca C cc aa A ac ra R rc mn)):=H12.out.setn 5 _
 have P1:=hid (M1.out.setn 5 (.slice ca C.length cc))
 have PA:=hid (MA.out.setn 5 (.slice ca C.length cc))
 have PR:=hid (MR.out.setn 5 (.slice ca C.length cc))
 have PC:=hid (MC.out.setn 5 (.slice ca C.length cc))
 clear n0 n1 n2 n3 n4 n5 n6 n7 n8 fn M1 MA MR MC H12
 generalize W12.setCell ⟨q,5,none⟩ (.slice ca C.length cc)=W13 at *
 have HT13:=hid H13.out.t
 obtain ⟨k0,k1,k2,k3,k4,k5,k6,k7,k8⟩:=cells9 HT13.out.x
 obtain ⟨z0,z1,z2,z3,z4,z5,z6,z7,z8⟩:=cells9 HT13.out.z
 have fx:=frz_blk HT13.out.x
 have fz:=frz_blk HT13.out.z
 obtain ⟨n0,n1,n2,n3,n4,n5,n6,n7,n8⟩:=cells9 H13.out.n
 have G53:=hid (changed_any (X:=fun b=>w.heap.size+2≤b) (w:=W13) (v:=.agg (PL id ld ep vr x1 isr y1 ca C cc aa A ac ra R rc mn)) (p:=⟨id,ld,ep,vr,isr,C,A,R,mn⟩) ⟨_,_,_,_,rfl,P1.out.1,PC.out.1,PA.out.1,PR.out.1,HI.out⟩ (inP_of P1.out.in PC.out.in PA.out.in PR.out.in) ld HI.out.2.1 hep hvr)
 have HR2:=hid HR.out
 clear HR
 generalize changedP ⟨id,ld,ep,vr,isr,C,A,R,mn⟩ ld=r2 at *
 obtain ⟨⟨rid,rld,rep,rvr,rl1,rl2,rl3,rl4,rmn⟩,re⟩:=r2
 go_wp2_with fail
 refine G53.out.mono ?_
 rintro e W14 ⟨v',rfl,h1,h2,hb⟩
 obtain ⟨t1,u1,t2,u2,t3,u3,t4,u4,rfl,q1,q2,q3,q4,ii⟩:=h1.open
 obtain ⟨n1,n2,n3,n4⟩:=h2 _ _ _ _ _ _ _ _ _ rfl
 simp only at q1 q2 q3 q4 n1 n2 n3 n4 ii
 have HT14:=hid (HT13.out.next hb)
 have HL:Hid (IA w W14 (.slice t1 rl1.length u1) rl1∧IA w W14 (.slice t2 rl2.length u2) rl2∧IA w W14 (.slice t3 rl3.length u3) rl3∧IA w W14 (.slice t4 rl4.length u4) rl4):=⟨⟨q1,n1.mono fun b hx=>.inr hx⟩,⟨q2,n2.mono fun b hx=>.inr hx⟩,⟨q3,n3.mono fun b hx=>.inr hx⟩,⟨q4,n4.mono fun b hx=>.inr hx⟩⟩
 have HN:Hid (InP (fun b=>w.heap.size≤b) (.agg (PL rid rld rep rvr t1 rl1 u1 t2 rl2 u2 t3 rl3 u3 t4 rl4 u4 rmn)) ⟨rid,rld,rep,rvr,rl1,rl2,rl3,rl4,rmn⟩):=h2.mono fun b hx=>by omega
 have HI2:=hid ii
 clear q1 q2 q3 q4 n1 n2 n3 n4 ii h1 h2 hb k0 k1 k2 k3 k4 k5 k6 k7 k8 z0 z1 z2 z3 z4 z5 z6 z7 z8 fx fz
 obtain ⟨k0,k1,k2,k3,k4,k5,k6,k7,k8⟩:=cells9 HT14.out.x
 obtain ⟨z0,z1,z2,z3,z4,z5,z6,z7,z8⟩:=cells9 HT14.out.z
 have fx:=frz_blk HT14.out.x
 have fz:=frz_blk HT14.out.z
 go_wp2_with fail
 exact leaf9 HT14.out rfl Tryz.results184 (n:=.int .i64 re) rfl rfl rfl fun W9 HT9 hsz9 HOFF=>(by rw [HR2.out];exact ⟨_,rfl,⟨_,_,_,_,rfl,HL.out.1.offz HOFF.out hsz9,HL.out.2.1.offz HOFF.out hsz9,HL.out.2.2.1.offz HOFF.out hsz9,HL.out.2.2.2.offz HOFF.out hsz9,HI2.out⟩,HN.out,HT9.out.b⟩)
theorem wf_of {k:Int} (h:I64 k):(Lit.int .i64 k).wf=true:=WalkArith.wf_i64 h
theorem law3:Keyed Tryz.prog 3:=int_keyed Tryz.underlying3
def Br.val (b:Br):Value:=.agg #[.int .i64 b.life,.bool b.up]
theorem zero93 (w:World):(zeroValue 93).run Tryz.prog w=.ok zeroB.val w:=by kernel_rfl
def Rh (v:Value):Option (DataW Value × List MemPlace) :=
 match v with
 | .agg cs=>(match cs.toList with
  | [.int .i64 _,.bool _]=>some (.held v,[])
  | _=>none)
 | _=>none
theorem Rh_mk (b:Br):Rh b.val=some (.held b.val,[]):=rfl
theorem Rh_inv {v:Value} {y:DataW Value × List MemPlace} (h:Rh v=some y):(∃ b:Br,v=b.val)∧y=(.held v,[]):=by
 unfold Rh at h
 split at h
 ·rename_i cs
  split at h
  ·rename_i l u e
   refine ⟨⟨⟨l,u⟩,?_⟩,by simpa using h.symm⟩
   unfold Br.val
   rw [← Array.toArray_toList (xs:=cs),e]
  ·cases h
 ·cases h
def dmap (bs:BM):DataW Value:=.map (bs.map fun p=>(Lit.int .i64 p.1,.held p.2.val))
theorem dmap_size (bs:BM):Maps.size (dmap bs)=bs.length:=by simp [dmap,Maps.size]
theorem sk (a b:Int):(Lit.int .i64 a).sameKey (.int .i64 b)=(a == b):=by
 show (decide _:Bool)=_
 rw [Bool.eq_iff_iff];simp [Lit.sameKey]
theorem find_dmap (n:Int):∀ bs:BM,
  (bs.map fun p=>(Lit.int .i64 p.1,(DataW.held p.2.val:DataW Value))).find? (fun p=>p.1.sameKey (.int .i64 n))=(bs.find? (fun p=>p.1 == n)).map fun p=>(Lit.int .i64 p.1,.held p.2.val)
 | []=>rfl
 | p :: r=>by
  simp only [List.map_cons,List.find?_cons,sk]
  cases p.1 == n
  ·exact find_dmap n r
  ·rfl
theorem dmap_atKey (bs:BM) (n:Int):(dmap bs).atKey (.int .i64 n) (.held zeroB.val)=.held (valB bs n).val:=by
 unfold DataW.atKey dmap
 simp only [find_dmap]
 unfold valB getB
 cases bs.find? (fun p=>p.1 == n) <;> rfl
theorem dmap_has (n:Int) (bs:BM):Maps.has (dmap bs) (.int .i64 n)=(getB bs n).isSome:=by
 unfold getB dmap Maps.has
 simp only [Option.isSome_map]
 induction bs with
 | nil=>rfl
 | cons p r ih =>
  simp only [List.map_cons,List.any_cons,sk,List.find?_cons]
  cases p.1 == n
  ·simpa only [Bool.false_or] using ih
  ·rfl
theorem insert_dmap (x:Int × Br):∀ bs:BM,
  DataW.insert (Lit.int .i64 x.1,(DataW.held x.2.val:DataW Value)) (bs.map fun p=>(Lit.int .i64 p.1,.held p.2.val))=(insB x bs).map fun p=>(Lit.int .i64 p.1,.held p.2.val)
 | []=>rfl
 | p :: r=>by
  have ih:=insert_dmap x r
  by_cases hb:x.1<p.1
  ·simp [List.map_cons,DataW.insert,insB,Lit.before,hb]
  ·simp [List.map_cons,DataW.insert,insB,Lit.before,hb,ih]
theorem filter_dmap (n:Int):∀ bs:BM,
  (bs.map fun p=>(Lit.int .i64 p.1,(DataW.held p.2.val:DataW Value))).filter (fun p=>!p.1.sameKey (.int .i64 n))=(delB bs n).map fun p=>(Lit.int .i64 p.1,.held p.2.val)
 | []=>rfl
 | p :: r=>by
  have ih:=filter_dmap n r
  unfold delB at ih ⊢
  simp only [List.map_cons,List.filter_cons,sk,ih]
  split <;> simp
theorem dmap_put (bs:BM) (n:Int) (f:Br):(dmap bs).put (.int .i64 n) (.held f.val)=dmap (putB bs n f):=by
 show DataW.map (DataW.insert (.int .i64 n,.held f.val) ((bs.map fun p=>(Lit.int .i64 p.1,(DataW.held p.2.val:DataW Value))).filter (fun p=>!p.1.sameKey (.int .i64 n))))=_
 rw [filter_dmap,insert_dmap (n,f)]
 rfl
theorem tight {w:World} {b m:Nat} {D:DataW Value} (h:w.ownsMap Tryz.prog 3 Rh b m D):w.ownsMap Tryz.prog 3 Rh b (Maps.size D) D:=by
 obtain ⟨es,clock,hm,F,hs,rfl⟩:=h
 exact ⟨es,clock,hm,F,by simp [Maps.size,length_sorted],rfl⟩
def flatT:List Tp→List Value
 | []=>[]
 | x :: r=>[.string x.name,.int .i64 x.first,.int .i64 x.count]++flatT r
def pc (v:Value):List Value:=match v with | .agg cs=>cs.toList | _=>[]
def flatP:List (Value × Pt)→List Value
 | []=>[]
 | x :: r=>pc x.1++flatP r
def intsV (l:List Int):List Value:=l.map fun x=>.int .i64 x
theorem flatT_length:∀ l:List Tp,(flatT l).length=l.length*3
 | []=>rfl
 | m :: r=>by simp [flatT,flatT_length r];omega
theorem flatT_append:∀ l m:List Tp,flatT (l++m)=flatT l++flatT m
 | [],m=>rfl
 | x :: r,m=>by simp [flatT,flatT_append r m]
theorem flatP_append:∀ l m:List (Value × Pt),flatP (l++m)=flatP l++flatP m
 | [],m=>rfl
 | x :: r,m=>by simp [flatP,flatP_append r m]
theorem flatP_length:∀ l:List (Value × Pt),(∀ x∈l,(pc x.1).length=9)→(flatP l).length=l.length*9
 | [],_=>rfl
 | m :: r,h=>by
  have h1:=h m (by simp)
  have h2:=flatP_length r (fun x hx=>h x (by simp [hx]))
  simp only [flatP,List.length_append,List.length_cons]
  omega
theorem flatP_get:∀ (l:List (Value × Pt)) (i t:Nat),(∀ x∈l,(pc x.1).length=9)→t<9→(flatP l)[i*9+t]?=(l[i]?).bind fun x=>(pc x.1)[t]?
 | [],i,t,_,_=>by simp [flatP]
 | x :: r,0,t,h,ht=>by
  have h1:=h x (by simp)
  simp only [flatP,Nat.zero_mul,Nat.zero_add,List.getElem?_cons_zero,Option.bind_some]
  exact List.getElem?_append_left (by omega)
 | x :: r,i+1,t,h,ht=>by
  have h1:=h x (by simp)
  have e1:(i+1)*9+t=9+(i*9+t):=by omega
  rw [e1]
  simp only [flatP,List.getElem?_cons_succ]
  rw [List.getElem?_append_right (by omega),h1]
  rw [show 9+(i*9+t) - 9=i*9+t by omega]
  exact flatP_get r i t (fun x hx=>h x (by simp [hx])) ht
theorem flatT_get:∀ (l:List Tp) (i:Nat) (x:Tp),l[i]?=some x→(flatT l)[i*3]?=some (.string x.name)∧(flatT l)[i*3+1]?=some (.int .i64 x.first)∧(flatT l)[i*3+2]?=some (.int .i64 x.count)
 | [],i,m,h=>by simp at h
 | y :: r,0,m,h=>by simp at h;subst h;simp [flatT]
 | y :: r,i+1,m,h=>by
  have ih:=flatT_get r i m (by simpa using h)
  have e:∀ j,(flatT (y :: r))[(i+1)*3+j]?=(flatT r)[i*3+j]?:=fun j=>by
   have e1:(i+1)*3+j=3+(i*3+j):=by omega
   rw [e1]
   show ([_,_,_]++flatT r)[3+(i*3+j)]?=_
   rw [List.getElem?_append_right (by simp)]
   congr 1
   simp
  refine ⟨?_,?_,?_⟩
  ·have:=e 0;simp only [Nat.add_zero] at this;rw [this];exact ih.1
  ·rw [e 1];exact ih.2.1
  ·rw [e 2];exact ih.2.2
theorem pc_part {w:World} {v:Value} {p:Pt} (h:PartM w v p):(pc v).length=9:=by
 obtain ⟨a,b,c,d,rfl,_⟩:=h
 rfl
structure Keeps (S:Nat→Prop) (w w':World):Prop where
 os:w'.os=w.os
 tape:w'.tape=w.tape
 output:w'.output=w.output
 size:w.heap.size≤w'.heap.size
 block:∀ k,k<w.heap.size→¬ S k→w'.heap[k]?=w.heap[k]?
theorem Keeps.refl (S:Nat→Prop) (w:World):Keeps S w w:=⟨rfl,rfl,rfl,Nat.le_refl _,fun _ _ _=>rfl⟩
theorem Keeps.of_below {S:Nat→Prop} {w w1:World} (h:Below w.heap.size w w1):Keeps S w w1:=⟨h.os,h.tape,h.output,h.size,fun k hk _=>h.block k hk⟩
theorem Keeps.of_grown {S:Nat→Prop} {w w1:World} {r:Option Nat} (h:w.grownBy w1 r) (hr:∀ k,r=some k→S k):Keeps S w w1:=⟨h.os,h.tape,h.output,h.size,fun k hk hS=>h.block k hk (fun e=>hS (hr k e.symm))⟩
theorem Keeps.trans {S T:Nat→Prop} {w w1 w2:World} (h:Keeps S w w1) (k:Keeps T w1 w2) (hT:∀ x,T x→S x∨w.heap.size≤x):Keeps S w w2 :=
 ⟨k.os.trans h.os,k.tape.trans h.tape,k.output.trans h.output,Nat.le_trans h.size k.size,fun x hx hS=>(k.block x (Nat.lt_of_lt_of_le hx h.size) (fun ht=>by rcases hT x ht with h1 | h1;exact hS h1;omega)).trans (h.block x hx hS)⟩
theorem Keeps.mono {S T:Nat→Prop} {w w1:World} (h:Keeps S w w1) (hT:∀ x,S x→T x):Keeps T w w1:=⟨h.os,h.tape,h.output,h.size,fun k hk hS=>h.block k hk (fun e=>hS (hT k e))⟩
theorem Keeps.below {S:Nat→Prop} {w w1:World} {B:Nat} (h:Keeps S w w1) (hB:B≤w.heap.size) (hS:∀ k,S k→B≤k):Below B w w1 :=
 ⟨h.os,h.tape,h.output,h.size,fun k hk=>h.block k (Nat.lt_of_lt_of_le hk hB) (fun hs=>by have:=hS k hs;omega)⟩
theorem Keeps.set {S:Nat→Prop} (w:World) {a:Addr} (ha:S a.block) (u:Value):Keeps S w (w.setCell a u) :=
 ⟨rfl,rfl,rfl,by simp,fun k hk hS=>Below.heap_setCell _ _ _ _ (fun e=>hS (by subst e;exact ha))⟩
def Own (q b:Nat) (vt vp ve:Value) (k:Nat):Prop:=k=q∨k=b∨vt.ownBlock=some k∨vp.ownBlock=some k∨ve.ownBlock=some k
structure ImC (w:World) (L:Nat→Prop) (q b:Nat) (vt vp ve:Value) (ps:List (Value × Pt)) (I:Im):Prop where
 cells:w.heap[q]?=some (.cells #[.int .i64 I.applied,.map (some b),vt,vp,ve] 70 (0,0))
 bmap:w.ownsMap Tryz.prog 3 Rh b I.brs.length (dmap I.brs)
 tops:w.ownsRow 0 96 3 vt I.tops.length (flatT I.tops)
 parts:w.ownsRow 0 54 9 vp ps.length (flatP ps)
 eps:w.ownsRow 0 3 1 ve I.eps.length (intsV I.eps)
 each:∀ x∈ps,PartM w x.1 x.2∧InP L x.1 x.2
 abs:I.parts=ps.map (·.2)
 lists:∀ k,L k→k<w.heap.size∧¬ Own q b vt vp ve k
 ok:ImOk I
theorem row_lt {w:World} {e s:Nat} {v:Value} {n:Nat} {xs:List Value} (h:w.ownsRow 0 e s v n xs) {k:Nat} (hk:v.ownBlock=some k):k<w.heap.size:=(World.ownsRow.lt h k hk).2
theorem row_blk {w:World} {e s:Nat} {v:Value} {n:Nat} {xs:List Value} (h:w.ownsRow 0 e s v n xs) {k:Nat} (hk:v.ownBlock=some k):∃ cur,w.heap[k]?=some (.cells cur e (0,0)):=by
 obtain ⟨h1,⟨rfl,_⟩ | ⟨g,cap,cur,rfl,hB,hg,r⟩⟩:=h
 ·cases hk
 ·cases hk;exact ⟨cur,hg⟩
theorem row_kept {w w1:World} {e s:Nat} {v:Value} {n:Nat} {xs:List Value} (h:w.ownsRow 0 e s v n xs) (hb:∀ k,v.ownBlock=some k→w1.heap[k]?=w.heap[k]?):w1.ownsRow 0 e s v n xs:=by
 obtain ⟨h1,h2⟩:=h
 rcases h2 with h2 | ⟨g,cap,cur,rfl,hB,hg,r⟩
 ·exact ⟨h1,.inl h2⟩
 ·exact ⟨h1,.inr ⟨g,cap,cur,rfl,hB,(hb g rfl).trans hg,r⟩⟩
theorem row_shape {w:World} {e s:Nat} {v:Value} {n:Nat} {xs:List Value} (h:w.ownsRow 0 e s v n xs):∃ oa cap,v=.slice oa n cap∧n≤cap∧cap≤maxLen∧(oa=none→cap=0)∧(0<n→∃ g,oa=some ⟨g,0,none⟩):=by
 obtain ⟨_,⟨e,h0⟩ | ⟨g,cap,cur,e,hb,hg,hn,hc,hs,ht⟩⟩:=h
 ·exact ⟨none,0,by rw [e,h0],by omega,Nat.zero_le _,fun _=>rfl,fun h=>by omega⟩
 ·exact ⟨some ⟨g,0,none⟩,cap,e,hn,hc,(fun h=>by cases h),fun _=>⟨g,rfl⟩⟩
theorem IL.kept {w w':World} {v:Value} {l:List Int} {X:Nat→Prop} (h:IL w v l) (hX:In X v l) (hb:∀ k,X k→w'.heap[k]?=w.heap[k]?) (hs:w.heap.size≤w'.heap.size):IL w' v l:=by
 obtain ⟨⟨a,cap,rfl,h1,h2,h3,h4⟩,h5,h6⟩:=h
 refine ⟨⟨a,cap,rfl,h1,h2,h3,fun hn=>?_⟩,h5,h6⟩
 obtain ⟨b,off,rfl,e2,e3⟩:=h4 hn
 exact ⟨b,off,rfl,Nat.lt_of_lt_of_le e2 hs,fun i hi=>(World.cell?_of_block (a:=⟨b,off+i,none⟩) (hb b (hX hn b off _ _ rfl))).trans (e3 i hi)⟩
theorem PartM.kept {w w':World} {v:Value} {p:Pt} {X:Nat→Prop} (h:PartM w v p) (hX:InP X v p) (hb:∀ k,X k→w'.heap[k]?=w.heap[k]?) (hs:w.heap.size≤w'.heap.size):PartM w' v p:=by
 obtain ⟨a,b,c,d,rfl,h1,h2,h3,h4,h5⟩:=h
 obtain ⟨g1,g2,g3,g4⟩:=hX _ _ _ _ _ _ _ _ _ rfl
 exact ⟨a,b,c,d,rfl,h1.kept g1 hb hs,h2.kept g2 hb hs,h3.kept g3 hb hs,h4.kept g4 hb hs,h5⟩
section
variable {w:World} {L:Nat→Prop} {q b:Nat} {vt vp ve:Value} {ps:List (Value × Pt)} {I:Im}
theorem ImC.lt (h:ImC w L q b vt vp ve ps I) {k:Nat} (hk:Own q b vt vp ve k):k<w.heap.size:=by
 rcases hk with rfl | rfl | hk | hk | hk
 ·exact (Array.getElem?_eq_some_iff.1 h.cells).1
 ·exact h.bmap.lt
 ·exact row_lt h.tops hk
 ·exact row_lt h.parts hk
 ·exact row_lt h.eps hk
theorem ImC.kept (h:ImC w L q b vt vp ve ps I) {w1:World} (ho:∀ k,Own q b vt vp ve k→w1.heap[k]?=w.heap[k]?) (hl:∀ k,L k→w1.heap[k]?=w.heap[k]?) (hs:w.heap.size≤w1.heap.size):ImC w1 L q b vt vp ve ps I:=by
 refine ⟨(ho q (.inl rfl)).trans h.cells,?_,row_kept h.tops (fun k hk=>ho k (.inr (.inr (.inl hk)))),row_kept h.parts (fun k hk=>ho k (.inr (.inr (.inr (.inl hk))))),row_kept h.eps (fun k hk=>ho k (.inr (.inr (.inr (.inr hk))))),fun x hx=>?_,h.abs,fun k hk=>⟨Nat.lt_of_lt_of_le (h.lists k hk).1 hs,(h.lists k hk).2⟩,h.ok⟩
 ·obtain ⟨es,clock,hm,r⟩:=h.bmap
  exact ⟨es,clock,(ho b (.inr (.inl rfl))).trans hm,r⟩
 ·obtain ⟨h1,h2⟩:=h.each x hx
  exact ⟨h1.kept h2 hl hs,h2⟩
theorem ImC.under (h:ImC w L q b vt vp ve ps I) {w1:World} (hb:Below w.heap.size w w1):ImC w1 L q b vt vp ve ps I :=
 h.kept (fun k hk=>hb.block k (h.lt hk)) (fun k hk=>hb.block k (h.lists k hk).1) hb.size
theorem ImC.c0 (h:ImC w L q b vt vp ve ps I):w.cell? ⟨q,0,none⟩=some (.int .i64 I.applied):=cell_blk h.cells 0 _ rfl
theorem ImC.c1 (h:ImC w L q b vt vp ve ps I):w.cell? ⟨q,1,none⟩=some (.map (some b)):=cell_blk h.cells 1 _ rfl
theorem ImC.c2 (h:ImC w L q b vt vp ve ps I):w.cell? ⟨q,2,none⟩=some vt:=cell_blk h.cells 2 _ rfl
theorem ImC.c3 (h:ImC w L q b vt vp ve ps I):w.cell? ⟨q,3,none⟩=some vp:=cell_blk h.cells 3 _ rfl
theorem ImC.c4 (h:ImC w L q b vt vp ve ps I):w.cell? ⟨q,4,none⟩=some ve:=cell_blk h.cells 4 _ rfl
theorem ImC.fz (h:ImC w L q b vt vp ve ps I) (j:Nat):w.frozen? ⟨q,j,none⟩=false:=frz_blk h.cells j
theorem ImC.plen (h:ImC w L q b vt vp ve ps I):I.parts.length=ps.length:=by rw [h.abs,List.length_map]
theorem ImC.ne_qb (h:ImC w L q b vt vp ve ps I):q≠b:=fun e=>by
 obtain ⟨es,clock,hm,r⟩:=h.bmap
 rw [← e,h.cells] at hm;cases hm
theorem ImC.ne_q (h:ImC w L q b vt vp ve ps I):vt.ownBlock≠some q∧vp.ownBlock≠some q∧ve.ownBlock≠some q:=by
 refine ⟨fun e=>?_,fun e=>?_,fun e=>?_⟩
 ·obtain ⟨cur,hc⟩:=row_blk h.tops e;rw [h.cells] at hc;cases hc
 ·obtain ⟨cur,hc⟩:=row_blk h.parts e;rw [h.cells] at hc;cases hc
 ·obtain ⟨cur,hc⟩:=row_blk h.eps e;rw [h.cells] at hc;cases hc
theorem ImC.ne_b (h:ImC w L q b vt vp ve ps I):vt.ownBlock≠some b∧vp.ownBlock≠some b∧ve.ownBlock≠some b:=by
 obtain ⟨es,clock,hm,r⟩:=h.bmap
 refine ⟨fun e=>?_,fun e=>?_,fun e=>?_⟩
 ·obtain ⟨cur,hc⟩:=row_blk h.tops e;rw [hm] at hc;cases hc
 ·obtain ⟨cur,hc⟩:=row_blk h.parts e;rw [hm] at hc;cases hc
 ·obtain ⟨cur,hc⟩:=row_blk h.eps e;rw [hm] at hc;cases hc
theorem ImC.ne_rows (h:ImC w L q b vt vp ve ps I) {k:Nat}:(vt.ownBlock=some k→vp.ownBlock≠some k)∧(vt.ownBlock=some k→ve.ownBlock≠some k)∧(vp.ownBlock=some k→ve.ownBlock≠some k):=by
 refine ⟨fun e e'=>?_,fun e e'=>?_,fun e e'=>?_⟩
 ·obtain ⟨c1,h1⟩:=row_blk h.tops e;obtain ⟨c2,h2⟩:=row_blk h.parts e';rw [h1] at h2;cases h2
 ·obtain ⟨c1,h1⟩:=row_blk h.tops e;obtain ⟨c2,h2⟩:=row_blk h.eps e';rw [h1] at h2;cases h2
 ·obtain ⟨c1,h1⟩:=row_blk h.parts e;obtain ⟨c2,h2⟩:=row_blk h.eps e';rw [h1] at h2;cases h2
theorem ImC.look (h:ImC w L q b vt vp ve ps I) (n:Int) (hn:I64 n) :
  (Instr.lookup 67 (.map (some b)) (.int .i64 n) false).run Tryz.prog w=.ok (valB I.brs n).val w:=by
 have hkey:=keyOf_int_mk Tryz.underlying3 (wf_of hn)
 obtain ⟨v,ps,hrun,hv⟩:=World.ownsMap.lookup h.bmap law3 Tryz.underlying67 (zero93 w) (zd:=.held zeroB.val) (zp:=[]) rfl hkey
 rw [dmap_atKey] at hv
 have hv:=(Rh_inv hv).2
 simp only [Prod.mk.injEq,DataW.held.injEq] at hv
 rw [hrun,← hv.1]
theorem ImC.look_ok (h:ImC w L q b vt vp ve ps I) (n:Int) (hn:I64 n) :
  (Instr.lookup 67 (.map (some b)) (.int .i64 n) true).run Tryz.prog w=.ok (.tuple #[(valB I.brs n).val,.bool (getB I.brs n).isSome]) w:=by
 have hkey:=keyOf_int_mk Tryz.underlying3 (wf_of hn)
 obtain ⟨v,ps,hrun,hv⟩:=World.ownsMap.look_ok h.bmap law3 Tryz.underlying67 (zero93 w) (zd:=.held zeroB.val) (zp:=[]) rfl hkey
 rw [dmap_atKey] at hv
 have hv:=(Rh_inv hv).2
 simp only [Prod.mk.injEq,DataW.held.injEq] at hv
 rw [hrun,← hv.1,dmap_has]
theorem ImOk.put {J:Im} (h:ImOk J) {n:Int} {x:Br} (hn:1≤n∧n≤7) (hx:1≤x.life∧x.life≤1000000000):ImOk { J with brs:=putB J.brs n x } :=
 ⟨rise_putB h.keys n x,fun p hp=>by
  rcases (mem_putB _ _ _ _).1 hp with rfl | ⟨hp,_⟩
  ·exact ⟨hn,hx⟩
  ·exact h.brs p hp,h.parts,h.few,h.tops,h.name,h.nums,h.eps,h.epv,h.app⟩
theorem ImC.put (h:ImC w L q b vt vp ve ps I) {n:Int} {x:Br} (hn:1≤n∧n≤7) (hx:1≤x.life∧x.life≤1000000000) :
  ∃ w',(Instr.mapUpdate 67 (.map (some b)) (.int .i64 n) x.val).run Tryz.prog w=.ok () w'∧ImC w' L q b vt vp ve ps { I with brs:=putB I.brs n x }∧w.grownBy w' (some b):=by
 have hl:=keys_few h.ok.keys (fun p hp=>(h.ok.brs p hp).1)
 obtain ⟨w',hrun,hown,ht⟩:=h.bmap.store law3 Tryz.underlying67 (by unfold maxLen;omega) (keyOf_int_mk Tryz.underlying3 (wf_of (k:=n) (by unfold I64;omega))) (Rh_mk x)
 have hg:=ht.grown
 have hs:=hg.size
 have hnb:=h.ne_b
 refine ⟨w',hrun,⟨(hg.block q (h.lt (.inl rfl)) (fun e=>h.ne_qb (by cases e;rfl))).trans h.cells,?_,?_,?_,?_,fun y hy=>?_,h.abs,fun k hk=>⟨Nat.lt_of_lt_of_le (h.lists k hk).1 hs,(h.lists k hk).2⟩,h.ok.put hn hx⟩,hg⟩
 ·rw [dmap_put] at hown
  have:=tight hown
  rw [dmap_size] at this
  exact this
 ·exact row_kept h.tops (fun k hk=>hg.block k (row_lt h.tops hk) (fun e=>by cases e;exact hnb.1 hk))
 ·exact row_kept h.parts (fun k hk=>hg.block k (row_lt h.parts hk) (fun e=>by cases e;exact hnb.2.1 hk))
 ·exact row_kept h.eps (fun k hk=>hg.block k (row_lt h.eps hk) (fun e=>by cases e;exact hnb.2.2 hk))
 ·obtain ⟨h1,h2⟩:=h.each y hy
  exact ⟨h1.kept h2 (fun k hk=>hg.block k (h.lists k hk).1 (fun e=>by cases e;exact (h.lists _ hk).2 (.inr (.inl rfl)))) hs,h2⟩
end
def Img (w:World) (Z:Nat→Prop) (q:Nat) (I:Im):Prop:=∃ L b vt vp ve ps,ImC w L q b vt vp ve ps I∧(∀ k,Own q b vt vp ve k→Z k)∧(∀ k,L k→Z k)∧∀ k,Z k→k<w.heap.size
def IAfter (Z:Nat→Prop) (w w':World) (q:Nat) (I:Im):Prop:=∃ Z',Img w' Z' q I∧(∀ k,Z' k→Z k∨w.heap.size≤k)∧Keeps Z w w'
theorem Img.under {w w1:World} {Z q I} (h:Img w Z q I) (hb:Below w.heap.size w w1):Img w1 Z q I:=by
 obtain ⟨L,b,vt,vp,ve,ps,h1,h2,h3,h4⟩:=h
 exact ⟨L,b,vt,vp,ve,ps,h1.under hb,h2,h3,fun k hk=>Nat.lt_of_lt_of_le (h4 k hk) hb.size⟩
theorem Img.ok {w:World} {Z q I} (h:Img w Z q I):ImOk I:=by obtain ⟨L,b,vt,vp,ve,ps,h1,h2,h3,h4⟩:=h;exact h1.ok
theorem Img.after {w:World} {Z q I} (h:Img w Z q I) {w1:World} (hb:Below w.heap.size w w1):IAfter Z w w1 q I:=⟨Z,h.under hb,fun k hk=>.inl hk,Keeps.of_below hb⟩
theorem IAfter.trans {Z Z1:Nat→Prop} {w w1 w2:World} {q:Nat} {I J:Im} (hi:Img w1 Z1 q I) (hz:∀ k,Z1 k→Z k∨w.heap.size≤k) (hk:Keeps Z w w1) (h:IAfter Z1 w1 w2 q J):IAfter Z w w2 q J:=by
 obtain ⟨Z2,a1,a2,a3⟩:=h
 refine ⟨Z2,a1,fun k hk2=>?_,hk.trans a3 hz⟩
 rcases a2 k hk2 with h1 | h1
 ·exact hz k h1
 ·exact .inr (Nat.le_trans hk.size h1)
theorem ImC.after {w w1:World} {L L1:Nat→Prop} {q b b1:Nat} {vt vp ve vt1 vp1 ve1:Value} {ps ps1:List (Value × Pt)} {I I1:Im} {Z:Nat→Prop} (h0:Img w Z q I) (h:ImC w1 L1 q b1 vt1 vp1 ve1 ps1 I1) (ho:∀ k,Own q b1 vt1 vp1 ve1 k→Z k∨w.heap.size≤k) (hl:∀ k,L1 k→Z k∨w.heap.size≤k) (hk:Keeps Z w w1):IAfter Z w w1 q I1 :=
 ⟨fun k=>(Own q b1 vt1 vp1 ve1 k∨L1 k),⟨L1,b1,vt1,vp1,ve1,ps1,h,fun k hk=>.inl hk,fun k hk=>.inr hk,fun k hk=>hk.elim (fun h1=>h.lt h1) (fun h1=>(h.lists k h1).1)⟩,fun k hk=>hk.elim (ho k) (hl k),hk⟩
structure RecM (w:World) (v:Value) (r:Rc):Prop where
 shape:∃ lv,v=.agg #[.int .i64 r.kind,.int .i64 r.a,.int .i64 r.b,.int .i64 r.c,.int .i64 r.d,.string r.name,.string r.text,lv]∧IL w lv r.list
 ok:RcOk r
 name:r.name.size≤maxLen
theorem RecM.under {w w1:World} {v:Value} {r:Rc} (h:RecM w v r) (hb:Below w.heap.size w w1):RecM w1 v r:=by
 obtain ⟨⟨lv,e,h1⟩,h2,h3⟩:=h
 exact ⟨⟨lv,e,h1.under hb⟩,h2,h3⟩
end Go.Proofs.YtcffomhcmilcpaaGreat
namespace Go.Proofs
open Go.RowKit Go.Maps Go.Sort Go.Shelf
def Tryz.keys50_ren:Go.Shelf.Ren:=⟨fun | 7=>110 | 10=>144 | n=>n,fun | 23=>67 | 26=>3 | 3=>93 | 28=>135 | 0=>0 | 27=>134 | 33=>118 | 4=>4 | n=>n,fun | n=>n⟩
theorem Tryz.keys50:Go.Proofs.SlLaysZI.n7 Tryz.prog Tryz.keys50_ren:={
  mixed:=by kernel_rfl
  f7:=⟨ "maps.Keys[map[int]logboom/meta.broker,int,logboom/meta.broker]",by decide,Tryz.func110.trans (congrArg some (by kernel_rfl))⟩
  f10:=⟨ "maps.Keys[map[int]logboom/meta.broker,int,logboom/meta.broker]$1",by decide,Tryz.func144.trans (congrArg some (by kernel_rfl))⟩
  t0:=Tryz.underlying0
  a0:=Tryz.isAgg0
  z0:=Tryz.sizeOf0
  v0:=Tryz.zeroValue0
  t4:=Tryz.underlying4
  a4:=Tryz.isAgg4
  z4:=Tryz.sizeOf4
  v4:=Tryz.zeroValue4
  t23:=Tryz.underlying67
  a23:=Tryz.isAgg67
  z23:=Tryz.sizeOf67
  v23:=Tryz.zeroValue67
  t26:=Tryz.underlying3
  a26:=Tryz.isAgg3
  z26:=Tryz.sizeOf3
  v26:=Tryz.zeroValue3
  t27:=Tryz.underlying134
  a27:=Tryz.isAgg134
  z27:=Tryz.sizeOf134
  v27:=Tryz.zeroValue134
  t28:=Tryz.underlying135
  a28:=Tryz.isAgg135
  z28:=Tryz.sizeOf135
  v28:=Tryz.zeroValue135
  t33:=Tryz.underlying118
  a33:=Tryz.isAgg118
  z33:=Tryz.sizeOf118
  v33:=Tryz.zeroValue118 }
def Tryz.sorted49_ren:Go.Shelf.Ren:=⟨fun | 6=>109 | 8=>142 | 9=>143 | 11=>173 | 13=>112 | 12=>174 | 23=>154 | 24=>155 | 14=>189 | 15=>190 | 16=>191 | 17=>192 | 18=>193 | 19=>194 | 20=>195 | 21=>196 | 22=>197 | 25=>206 | 26=>176 | 27=>177 | 28=>207 | 29=>208 | 30=>209 | 31=>211 | n=>n,fun | 26=>3 | 28=>135 | 24=>23 | 0=>0 | 3=>3 | 37=>139 | 48=>155 | 50=>124 | 4=>4 | 40=>162 | 39=>161 | 45=>81 | 5=>5 | 9=>9 | 51=>178 | 55=>149 | 57=>193 | 58=>194 | 33=>118 | n=>n,fun | n=>n⟩
theorem Tryz.sorted49:Go.Proofs.SlLaysZI.n6 Tryz.prog Tryz.sorted49_ren:={
  mixed:=by kernel_rfl
  f6:=⟨ "slices.Sorted[int]",by decide,Tryz.func109.trans (congrArg some (by kernel_rfl))⟩
  f8:=⟨ "slices.Collect[int]",by decide,Tryz.func142.trans (congrArg some (by kernel_rfl))⟩
  f11:=⟨ "slices.AppendSeq[[]int,int]",by decide,Tryz.func173.trans (congrArg some (by kernel_rfl))⟩
  t0:=Tryz.underlying0
  a0:=Tryz.isAgg0
  z0:=Tryz.sizeOf0
  v0:=Tryz.zeroValue0
  t24:=Tryz.underlying23
  a24:=Tryz.isAgg23
  z24:=Tryz.sizeOf23
  v24:=Tryz.zeroValue23
  t26:=Tryz.underlying3
  a26:=Tryz.isAgg3
  z26:=Tryz.sizeOf3
  v26:=Tryz.zeroValue3
  t28:=Tryz.underlying135
  a28:=Tryz.isAgg135
  z28:=Tryz.sizeOf135
  v28:=Tryz.zeroValue135
  i26:=by kernel_rfl }
def Tryz.sort72_ren:Go.Shelf.Ren:=⟨fun | 5=>143 | 8=>112 | 7=>174 | 19=>154 | 20=>155 | 10=>189 | 11=>190 | 12=>191 | 13=>192 | 14=>193 | 15=>194 | 16=>195 | 17=>196 | 18=>197 | 30=>206 | 31=>176 | 32=>177 | 33=>207 | 34=>208 | 35=>209 | 40=>211 | n=>n,fun | 23=>23 | 25=>3 | 3=>3 | 32=>139 | 22=>23 | 0=>0 | 44=>155 | 46=>124 | 4=>4 | 36=>162 | 35=>161 | 41=>81 | 5=>5 | 9=>9 | 53=>178 | 57=>149 | 63=>193 | 64=>194 | n=>n,fun | n=>n⟩
theorem Tryz.sort72:Go.Proofs.SlLaysM.n5 Tryz.prog Tryz.sort72_ren:={
  mixed:=by kernel_rfl
  f5:=⟨ "slices.Sort[[]int,int]",by decide,Tryz.func143.trans (congrArg some (by kernel_rfl))⟩
  f7:=⟨ "slices.pdqsortOrdered[int]",by decide,Tryz.func174.trans (congrArg some (by kernel_rfl))⟩
  f8:=Tryz.func112.trans (congrArg some (by kernel_rfl))
  f10:=⟨ "slices.insertionSortOrdered[int]",by decide,Tryz.func189.trans (congrArg some (by kernel_rfl))⟩
  f11:=⟨ "slices.heapSortOrdered[int]",by decide,Tryz.func190.trans (congrArg some (by kernel_rfl))⟩
  f12:=⟨ "slices.breakPatternsOrdered[int]",by decide,Tryz.func191.trans (congrArg some (by kernel_rfl))⟩
  f13:=⟨ "slices.choosePivotOrdered[int]",by decide,Tryz.func192.trans (congrArg some (by kernel_rfl))⟩
  f14:=⟨ "slices.reverseRangeOrdered[int]",by decide,Tryz.func193.trans (congrArg some (by kernel_rfl))⟩
  f15:=⟨ "slices.partialInsertionSortOrdered[int]",by decide,Tryz.func194.trans (congrArg some (by kernel_rfl))⟩
  f16:=⟨ "cmp.Less[int]",by decide,Tryz.func195.trans (congrArg some (by kernel_rfl))⟩
  f17:=⟨ "slices.partitionEqualOrdered[int]",by decide,Tryz.func196.trans (congrArg some (by kernel_rfl))⟩
  f18:=⟨ "slices.partitionOrdered[int]",by decide,Tryz.func197.trans (congrArg some (by kernel_rfl))⟩
  f19:=Tryz.func154.trans (congrArg some (by kernel_rfl))
  f20:=Tryz.func155.trans (congrArg some (by kernel_rfl))
  f30:=⟨ "slices.siftDownOrdered[int]",by decide,Tryz.func206.trans (congrArg some (by kernel_rfl))⟩
  f31:=Tryz.func176.trans (congrArg some (by kernel_rfl))
  f32:=Tryz.func177.trans (congrArg some (by kernel_rfl))
  f33:=⟨ "slices.medianAdjacentOrdered[int]",by decide,Tryz.func207.trans (congrArg some (by kernel_rfl))⟩
  f34:=⟨ "slices.medianOrdered[int]",by decide,Tryz.func208.trans (congrArg some (by kernel_rfl))⟩
  f35:=⟨ "cmp.isNaN[int]",by decide,Tryz.func209.trans (congrArg some (by kernel_rfl))⟩
  f40:=⟨ "slices.order2Ordered[int]",by decide,Tryz.func211.trans (congrArg some (by kernel_rfl))⟩
  t0:=Tryz.underlying0
  a0:=Tryz.isAgg0
  z0:=Tryz.sizeOf0
  v0:=Tryz.zeroValue0
  t3:=Tryz.underlying3
  a3:=Tryz.isAgg3
  z3:=Tryz.sizeOf3
  v3:=Tryz.zeroValue3
  t4:=Tryz.underlying4
  a4:=Tryz.isAgg4
  z4:=Tryz.sizeOf4
  v4:=Tryz.zeroValue4
  t5:=Tryz.underlying5
  a5:=Tryz.isAgg5
  z5:=Tryz.sizeOf5
  v5:=Tryz.zeroValue5
  t9:=Tryz.underlying9
  a9:=Tryz.isAgg9
  z9:=Tryz.sizeOf9
  v9:=Tryz.zeroValue9
  t22:=Tryz.underlying23
  a22:=Tryz.isAgg23
  z22:=Tryz.sizeOf23
  v22:=Tryz.zeroValue23
  t23:=Tryz.underlying23
  a23:=Tryz.isAgg23
  z23:=Tryz.sizeOf23
  v23:=Tryz.zeroValue23
  t25:=Tryz.underlying3
  a25:=Tryz.isAgg3
  z25:=Tryz.sizeOf3
  v25:=Tryz.zeroValue3
  t32:=Tryz.underlying139
  a32:=Tryz.isAgg139
  z32:=Tryz.sizeOf139
  v32:=Tryz.zeroValue139
  t35:=Tryz.underlying161
  a35:=Tryz.isAgg161
  z35:=Tryz.sizeOf161
  v35:=Tryz.zeroValue161
  t36:=Tryz.underlying162
  a36:=Tryz.isAgg162
  z36:=Tryz.sizeOf162
  v36:=Tryz.zeroValue162
  t41:=Tryz.underlying81
  a41:=Tryz.isAgg81
  z41:=Tryz.sizeOf81
  v41:=Tryz.zeroValue81
  t44:=Tryz.underlying155
  a44:=Tryz.isAgg155
  z44:=Tryz.sizeOf155
  v44:=Tryz.zeroValue155
  t46:=Tryz.underlying124
  a46:=Tryz.isAgg124
  z46:=Tryz.sizeOf124
  v46:=Tryz.zeroValue124
  t53:=Tryz.underlying178
  a53:=Tryz.isAgg178
  z53:=Tryz.sizeOf178
  v53:=Tryz.zeroValue178
  t57:=Tryz.underlying149
  a57:=Tryz.isAgg149
  z57:=Tryz.sizeOf149
  v57:=Tryz.zeroValue149
  t63:=Tryz.underlying193
  a63:=Tryz.isAgg193
  z63:=Tryz.sizeOf193
  v63:=Tryz.zeroValue193
  t64:=Tryz.underlying194
  a64:=Tryz.isAgg194
  z64:=Tryz.sizeOf194
  v64:=Tryz.zeroValue194 }
theorem Tryz.sorts49 (m:Nat):AnyZI.SortsIn Tryz.prog Tryz.sorted49_ren Fence.wide m :=
  ⟨fun blk off cap ss W hH hblk hsz=>callsIn_wide.2 (AnyM.slices_Sort_int Tryz.sort72 blk off cap ss W hH hblk hsz),
   fun p cap W=>callsIn_wide.2 (AnyM.slices_Sort_int_none Tryz.sort72 p cap W)⟩
theorem Tryz.maps_Keys_50 (mb:Option Nat) (W:World):CallsIn Fence.wide 5 Tryz.prog 110 #[.map mb] W fun e w'=>e=.returned (.func (.func 144) #[] #[.pointer (some ⟨W.heap.size,0,none⟩)])∧w'=W.alloc (.cells #[.map mb] 67) :=
  AnyZI.keys_in Tryz.keys50 Fence.wide 5 trivial rfl mb W
theorem Tryz.slices_Sorted_keys_49_50 {H:Type} (b nn:Nat) (D0:DataW H) (R:Value→Option (DataW H × List MemPlace)) (w:World) (hown:w.ownsMap Tryz.prog 3 R b nn D0) (hmax:Maps.size D0≤maxLen) (hbytes:Maps.size D0*8≤140737488355328) :
    CallsIn Fence.wide 5 Tryz.prog 109 #[.func (.func 144) #[] #[.pointer (some ⟨w.heap.size,0,none⟩)]] (w.alloc (.cells #[.map (some b)] 67)) fun e w'=>∃ (v:Value) (ss:List Int),e=.returned v∧ss.Perm (intKeys D0) ∧
      w'.ownsRow (w.alloc (.cells #[.map (some b)] 67)).heap.size 3 1 v ss.length ((ss.mergeSort (fun x y=>decide (x≤y))).map encZ)∧(v=.slice none 0 0 ↔ ss=[])∧Below (w.alloc (.cells #[.map (some b)] 67)).heap.size (w.alloc (.cells #[.map (some b)] 67)) w':=by
  have hbl:=hown.lt
  have hseq:SeqGives Fence.wide 2 Tryz.prog 144 #[.pointer (some ⟨w.heap.size,0,none⟩)] encZ (fun ss=>ss.Perm (intKeys D0)) (Maps.size D0) (w.alloc (.cells #[.map (some b)] 67)) :=
    AnyZI.keys_gives (ρ:=Tryz.keys50_ren) { Tryz.keys50 with } Fence.wide _ trivial rfl (by omega) w.heap.size b nn D0 _ (by simp) (by simp) (by
      obtain ⟨es,clock,hb,Ft,hs,hD⟩:=hown
      exact ⟨es,clock,(Below.heap_alloc _ _ b hbl).trans hb,Ft,hs,hD⟩)
  exact AnyZI.sorted_in Tryz.sorted49 Fence.wide 5 trivial trivial trivial trivial rfl (by omega) (Tryz.sorts49 _) (enters_of Tryz.func143 (by kernel_rfl) rfl) 144 #[.pointer (some ⟨w.heap.size,0,none⟩)] trivial (enters_of Tryz.func144 (by kernel_rfl) rfl) _ _ hmax hbytes _ hseq
end Go.Proofs
namespace Go.Proofs.YtcffomhcmilcpaaGreat
open Go.RowKit Go.Maps Go.Sort
theorem upTo_any (n m:Int) (w:World) (hn:I64 n) (hm:I64 m):Calls Tryz.prog 67 #[.int .i64 n,.int .i64 m] w fun e w'=>e=.returned (.bool (upB n m))∧w=w':=by
 unfold I64 at hn hm
 go_enter Tryz.func67,Tryz.ntmps67
 go_wp2
 all_goals
  go_ret
  refine ⟨ret_bool ?_,rfl⟩
  rw [Bool.eq_iff_iff]
  simp [upB]
  try omega
theorem broker_any (n:Int) (w:World) (hn:I64 n):Calls Tryz.prog 91 #[.int .i64 n] w fun e w'=>e=.returned (.bool (upB n 7))∧w=w':=by
 go_enter Tryz.func91,Tryz.ntmps91
 go_wp2_with fail
 refine (upTo_any _ _ _ hn (by unfold I64;omega)).mono ?_
 rintro e w1 ⟨rfl,rfl⟩
 go_wp2_with fail
 go_ret
 exact ⟨rfl,rfl⟩
theorem imOk_new:ImOk Im.new:=⟨by simp [Im.new],by simp [Im.new],by simp [Im.new],by simp [Im.new],by simp [Im.new,sumT],by simp [Im.new],by simp [Im.new],by simp [Im.new],by simp [Im.new],by simp [Im.new]⟩
theorem new_any (w:World):Calls Tryz.prog 10 #[] w fun e w'=>e=.returned (.pointer (some ⟨w.heap.size+1,0,none⟩))∧Img w' (fun k=>k=w.heap.size∨k=w.heap.size+1) (w.heap.size+1) Im.new∧Below w.heap.size w w':=by
 have hmm:=@run_makeMap Tryz.prog
 go_enter Tryz.func10,Tryz.ntmps10
 go_wp2_with fail
 go_ret
 have hz:(w.alloc (.map #[] 0)).heap.size=w.heap.size+1:=by simp
 have hz2:((w.alloc (.map #[] 0)).alloc (.cells #[.int .i64 0,.map (some w.heap.size),.slice none 0 0,.slice none 0 0,.slice none 0 0] 70)).heap.size=w.heap.size+2:=by simp
 refine ⟨rfl,⟨fun _=>False,w.heap.size,.slice none 0 0,.slice none 0 0,.slice none 0 0,[],⟨?_,?_,⟨rfl,.inl ⟨rfl,rfl⟩⟩,⟨rfl,.inl ⟨rfl,rfl⟩⟩,⟨rfl,.inl ⟨rfl,rfl⟩⟩,(fun x hx=>by cases hx),rfl,(fun k hk=>hk.elim),imOk_new⟩,fun k hk=>?_,fun k hk=>hk.elim,fun k hk=>?_⟩,((Below.refl _ _).alloc (Nat.le_refl _) _).alloc (by rw [hz];omega) _⟩
 ·have:=heap_alloc_new (w.alloc (.map #[] 0)) (.cells #[.int .i64 0,.map (some w.heap.size),.slice none 0 0,.slice none 0 0,.slice none 0 0] 70)
  rw [hz] at this
  exact this
 ·exact (World.ownsMap_made w Tryz.prog 3 Rh).alloc _
 ·rcases hk with rfl | rfl | hk | hk | hk
  ·exact .inr rfl
  ·exact .inl rfl
  ·cases hk
  ·cases hk
  ·cases hk
 ·rw [hz2];rcases hk with rfl | rfl <;> omega
theorem rec_any (a b c d:Int) (w:World):Calls Tryz.prog 19 #[.int .i64 a,.int .i64 b,.int .i64 c,.int .i64 d] w fun e w'=>e=.returned (.agg #[.int .i64 a,.int .i64 b,.int .i64 c,.int .i64 d,.int .i64 0,.string ⟨#[116]⟩,.string ⟨#[]⟩,.slice none 0 0])∧Below w.heap.size w w':=by
 go_enter Tryz.func19,Tryz.ntmps19
 go_wp2_with fail
 refine bodyPost_ret (v:=.agg #[.int .i64 a,.int .i64 b,.int .i64 c,.int .i64 d,.int .i64 0,.string ⟨#[116]⟩,.string ⟨#[]⟩,.slice none 0 0]) (by simp [results,Tryz.results19,go_sem]) rfl ⟨rfl,?_⟩
 repeat (first | exact Below.refl _ _ | refine Below.setCell ?_ (by simp) _ | refine Below.alloc ?_ (by simp) _)
def kindF (k:Int):Nat:=if k=1 then 68 else if k=2 then 69 else if k=3 then 70 else if k=4 then 71 else if k=5∨k=6∨k=7∨k=10∨k=9 then 72 else if k=8 then 73 else 74
theorem kind_any (k:Int) (w:World) (hk:I64 k):Calls Tryz.prog 32 #[.int .i64 k] w fun e w'=>e=.returned (.func (.func (kindF k)) #[] #[])∧w=w':=by
 unfold I64 at hk
 by_cases h1:k=1
 ·subst h1
  show Calls Tryz.prog 32 #[.int .i64 1] w fun e w'=>e=.returned (.func (.func 68) #[] #[])∧w=w'
  go_enter Tryz.func32,Tryz.ntmps32
  go_wp2_with fail
  go_ret
  exact ⟨rfl,rfl⟩
 by_cases h2:k=2
 ·subst h2
  show Calls Tryz.prog 32 #[.int .i64 2] w fun e w'=>e=.returned (.func (.func 69) #[] #[])∧w=w'
  go_enter Tryz.func32,Tryz.ntmps32
  go_wp2_with fail
  go_ret
  exact ⟨rfl,rfl⟩
 by_cases h3:k=3
 ·subst h3
  show Calls Tryz.prog 32 #[.int .i64 3] w fun e w'=>e=.returned (.func (.func 70) #[] #[])∧w=w'
  go_enter Tryz.func32,Tryz.ntmps32
  go_wp2_with fail
  go_ret
  exact ⟨rfl,rfl⟩
 by_cases h4:k=4
 ·subst h4
  show Calls Tryz.prog 32 #[.int .i64 4] w fun e w'=>e=.returned (.func (.func 71) #[] #[])∧w=w'
  go_enter Tryz.func32,Tryz.ntmps32
  go_wp2_with fail
  go_ret
  exact ⟨rfl,rfl⟩
 by_cases h5:k=5
 ·subst h5
  show Calls Tryz.prog 32 #[.int .i64 5] w fun e w'=>e=.returned (.func (.func 72) #[] #[])∧w=w'
  go_enter Tryz.func32,Tryz.ntmps32
  go_wp2_with fail
  go_ret
  exact ⟨rfl,rfl⟩
 by_cases h6:k=6
 ·subst h6
  show Calls Tryz.prog 32 #[.int .i64 6] w fun e w'=>e=.returned (.func (.func 72) #[] #[])∧w=w'
  go_enter Tryz.func32,Tryz.ntmps32
  go_wp2_with fail
  go_ret
  exact ⟨rfl,rfl⟩
 by_cases h7:k=7
 ·subst h7
  show Calls Tryz.prog 32 #[.int .i64 7] w fun e w'=>e=.returned (.func (.func 72) #[] #[])∧w=w'
  go_enter Tryz.func32,Tryz.ntmps32
  go_wp2_with fail
  go_ret
  exact ⟨rfl,rfl⟩
 by_cases h10:k=10
 ·subst h10
  show Calls Tryz.prog 32 #[.int .i64 10] w fun e w'=>e=.returned (.func (.func 72) #[] #[])∧w=w'
  go_enter Tryz.func32,Tryz.ntmps32
  go_wp2_with fail
  go_ret
  exact ⟨rfl,rfl⟩
 by_cases h9:k=9
 ·subst h9
  show Calls Tryz.prog 32 #[.int .i64 9] w fun e w'=>e=.returned (.func (.func 72) #[] #[])∧w=w'
  go_enter Tryz.func32,Tryz.ntmps32
  go_wp2_with fail
  go_ret
  exact ⟨rfl,rfl⟩
 by_cases h8:k=8
 ·subst h8
  show Calls Tryz.prog 32 #[.int .i64 8] w fun e w'=>e=.returned (.func (.func 73) #[] #[])∧w=w'
  go_enter Tryz.func32,Tryz.ntmps32
  go_wp2_with fail
  go_ret
  exact ⟨rfl,rfl⟩
 have HF:kindF k=74:=by simp [kindF,h1,h2,h3,h4,h5,h6,h7,h10,h9,h8]
 rw [HF]
 clear HF
 go_enter Tryz.func32,Tryz.ntmps32
 go_wp2_with fail
 go_ret
 exact ⟨rfl,rfl⟩
theorem applied_any {w:World} {Z q I} (h:Img w Z q I):Calls Tryz.prog 27 #[.pointer (some ⟨q,0,none⟩)] w fun e w'=>e=.returned (.int .i64 I.applied)∧w=w':=by
 obtain ⟨L,b,vt,vp,ve,ps,h1,_⟩:=h
 have c0:=h1.c0
 clear h1
 go_enter Tryz.func27,Tryz.ntmps27
 go_wp2_with fail
 go_ret
 exact ⟨rfl,rfl⟩
theorem row_base {w:World} {B B' e s:Nat} {v:Value} {n:Nat} {xs:List Value} (h:w.ownsRow B e s v n xs) (hB:B'≤B):w.ownsRow B' e s v n xs:=by
 obtain ⟨h1,h2 | ⟨g,cap,cur,rfl,hb,hg,r⟩⟩:=h
 ·exact ⟨h1,.inl h2⟩
 ·exact ⟨h1,.inr ⟨g,cap,cur,rfl,Nat.le_trans hB hb,hg,r⟩⟩
theorem intKeys_dmap (fs:BM):intKeys (dmap fs)=fs.map (·.1):=by
 simp [intKeys,dmap,Function.comp_def,Go.intOf]
theorem sorted_keys {fs:BM} (hr:fs.Pairwise (fun p q=>p.1<q.1)) {ss:List Int} (hp:ss.Perm (fs.map (·.1))):ss.mergeSort (fun x y=>decide (x≤y))=fs.map (·.1):=by
 have hs:(fs.map (·.1)).Pairwise (fun x y=>decide (x≤y)=true):=by
  rw [List.pairwise_map]
  exact hr.imp (fun h=>by simp;omega)
 have h1:(ss.mergeSort (fun x y=>decide (x≤y))).Pairwise (fun x y=>decide (x≤y)=true):=List.pairwise_mergeSort (fun a b c h1 h2=>by simp at h1 h2 ⊢;omega) (fun a b=>by simp;omega) ss
 have h2:(ss.mergeSort (fun x y=>decide (x≤y))).Perm (fs.map (·.1)):=(List.mergeSort_perm ss _).trans hp
 exact h2.eq_of_pairwise (fun a b _ _ h3 h4=>by simp at h3 h4;omega) h1 hs
section
variable {w:World} {L:Nat→Prop} {q b:Nat} {vt vp ve:Value} {ps:List (Value × Pt)} {I:Im}
theorem keys_any (mb:Option Nat) (w:World):Calls Tryz.prog 110 #[.map mb] w fun e w'=>e=.returned (.func (.func 144) #[] #[.pointer (some ⟨w.heap.size,0,none⟩)])∧w'=w.alloc (.cells #[.map mb] 67):=callsIn_wide.1 (Tryz.maps_Keys_50 mb w)
theorem sorted_any (h:ImC w L q b vt vp ve ps I):Calls Tryz.prog 109 #[.func (.func 144) #[] #[.pointer (some ⟨w.heap.size,0,none⟩)]] (w.alloc (.cells #[.map (some b)] 67)) fun e w'=>∃ v,e=.returned v∧w'.ownsRow w.heap.size 3 1 v I.brs.length (intsV (I.brs.map (·.1)))∧Below w.heap.size w w':=by
 have hl:=keys_few h.ok.keys (fun p hp=>(h.ok.brs p hp).1)
 refine (callsIn_wide.1 (Tryz.slices_Sorted_keys_49_50 b I.brs.length (dmap I.brs) Rh w h.bmap (by rw [dmap_size];unfold maxLen;omega) (by rw [dmap_size];omega))).mono ?_
 rintro e w' ⟨v,ss,rfl,hS,hrow,hnil,hb⟩
 rw [intKeys_dmap] at hS
 have hl2:ss.length=I.brs.length:=by simpa using hS.length_eq
 rw [sorted_keys h.ok.keys hS,hl2] at hrow
 refine ⟨v,rfl,?_,((Below.refl _ w).alloc (Nat.le_refl _) _).trans (hb.mono (by simp))⟩
 exact row_base hrow (by simp)
end
theorem il_of_row {w:World} {B:Nat} {v:Value} {l:List Int} (h:w.ownsRow B 3 1 v l.length (intsV l)) (ok:∀ x∈l,I64 x) (hl:l.length≤17592186044415):IL w v l∧In (fun k=>B≤k) v l:=by
 obtain ⟨h1,⟨rfl,h0⟩ | ⟨g,cap,cur,rfl,hB,hg,hn,hc,hs,ht⟩⟩:=h
 ·have:l=[]:=List.length_eq_zero_iff.1 h0
  subst this
  exact ⟨IL.nil _,In.nil _ _⟩
 ·refine ⟨⟨⟨some ⟨g,0,none⟩,cap,rfl,hn,hc,(fun h=>by cases h),fun hne=>⟨g,0,rfl,(Array.getElem?_eq_some_iff.1 hg).1,fun i hi=>?_⟩⟩,ok,hl⟩,fun _ b off n c e=>by cases e;exact hB⟩
  refine cell_blk hg _ _ ?_
  have h2:(intsV l)[i]?=some (.int .i64 l[i]):=by simp [intsV,hi]
  rw [← ht,List.getElem?_take] at h2
  split at h2
  ·simpa using h2
  ·cases h2
theorem ids_any {w:World} {L:Nat→Prop} {q b:Nat} {vt vp ve:Value} {ps:List (Value × Pt)} {I:Im} (h:ImC w L q b vt vp ve ps I):Calls Tryz.prog 63 #[.pointer (some ⟨q,0,none⟩)] w fun e w'=>∃ v,e=.returned v∧IL w' v (I.brs.map (·.1))∧Below w.heap.size w w':=by
 have HK:=hid (keys_any (some b) w)
 have HS:=hid (sorted_any h)
 have c1:=h.c1
 have HO:=hid h.ok
 clear h
 go_enter Tryz.func63,Tryz.ntmps63
 go_wp2_with (first | (go_at_call 110;refine HK.out.mono ?_;rintro e w1 ⟨rfl,rfl⟩) | (go_at_call 109;refine HS.out.mono ?_;rintro e w2 ⟨v,rfl,hrow,hb⟩))
 go_ret
 have hl:=keys_few HO.out.keys (fun p hp=>(HO.out.brs p hp).1)
 refine ⟨v,rfl,(il_of_row (l:=I.brs.map (·.1)) (by simpa using hrow) (fun x hx=>?_) (by simp;omega)).1,hb⟩
 obtain ⟨p,hp,rfl⟩:=List.mem_map.1 hx
 have:=(HO.out.brs p hp).1
 unfold I64;omega
end Go.Proofs.YtcffomhcmilcpaaGreat
namespace Go.Proofs.YtcffomhcmilcpaaGreat
open Go.RowKit Go.Maps
def puts (W:World) (q:Nat):Nat→List Value→World
 | _,[]=>W
 | o,v :: r=>puts (W.setCell ⟨q,o,none⟩ v) q (o+1) r
structure PutsR (W N:World) (q o:Nat) (vs:List Value):Prop where
 os:N.os=W.os
 tape:N.tape=W.tape
 output:N.output=W.output
 size:N.heap.size=W.heap.size
 other:∀ b,b≠q→N.heap[b]?=W.heap[b]?
 blk:∀ cs T,W.heap[q]?=some (.cells cs T)→∃ cs':Array Value,N.heap[q]?=some (.cells cs' T)∧cs'.size=cs.size∧∀ j,cs'[j]?=if j<cs.size∧o≤j∧j<o+vs.length then vs[j - o]? else cs[j]?
theorem puts_all:∀ (vs:List Value) (W:World) (q o:Nat),PutsR W (puts W q o vs) q o vs
 | [],W,q,o=>⟨rfl,rfl,rfl,rfl,fun _ _=>rfl,fun cs T h=>⟨cs,h,rfl,fun j=>by rw [if_neg (by intro h;simp at h;omega)]⟩⟩
 | v :: r,W,q,o=>by
  have ih:=puts_all r (W.setCell ⟨q,o,none⟩ v) q (o+1)
  refine ⟨ih.os,ih.tape,ih.output,ih.size.trans (by simp),fun b hb=>(ih.other b hb).trans (Below.heap_setCell _ _ _ _ hb),fun cs T h=>?_⟩
  obtain ⟨cs',h1,h2,h3⟩:=ih.blk _ _ (set_box (j:=o) (v:=v) h)
  refine ⟨cs',h1,by rw [h2];simp,fun j=>?_⟩
  rw [h3 j]
  simp only [Array.size_setIfInBounds,List.length_cons,Array.getElem?_setIfInBounds]
  by_cases e:o=j
  ·subst e
   rw [if_neg (by omega)]
   simp only [if_true,Nat.sub_self,List.getElem?_cons_zero]
   by_cases hs:o<cs.size
   ·rw [if_pos hs,if_pos ⟨hs,by omega,by omega⟩]
   ·rw [if_neg hs,if_neg (by omega),Array.getElem?_eq_none (by omega)]
  ·by_cases hc:j<cs.size∧o+1≤j∧j<o+1+r.length
   ·rw [if_pos hc,if_pos (by omega)]
    rw [show j - o=(j - (o+1))+1 by omega,List.getElem?_cons_succ]
   ·rw [if_neg hc,if_neg e,if_neg (by omega)]
theorem PutsR.below {W N:World} {q o:Nat} {vs:List Value} (h:PutsR W N q o vs) {B:Nat} {w:World} (hb:Below B w W) (hq:B≤q):Below B w N :=
 hb.trans ⟨h.os,h.tape,h.output,by rw [h.size];exact Nat.le_refl _,fun k hk=>h.other k (by omega)⟩
theorem PutsR.keeps {W N:World} {q o:Nat} {vs:List Value} (h:PutsR W N q o vs) {S:Nat→Prop} (hq:S q):Keeps S W N :=
 ⟨h.os,h.tape,h.output,by rw [h.size];exact Nat.le_refl _,fun k hk hS=>h.other k (fun e=>hS (by subst e;exact hq))⟩
theorem PutsR.box9 {W N:World} {q:Nat} {v0 v1 v2 v3 v4 v5 v6 v7 v8:Value} (h:PutsR W N q 0 [v0,v1,v2,v3,v4,v5,v6,v7,v8]) {cs:Array Value} {T:TypeId} (hc:W.heap[q]?=some (.cells cs T)) (hs:cs.size=9):N.heap[q]?=some (.cells #[v0,v1,v2,v3,v4,v5,v6,v7,v8] T):=by
 obtain ⟨cs',h1,h2,h3⟩:=h.blk _ _ hc
 have:cs'=#[v0,v1,v2,v3,v4,v5,v6,v7,v8]:=by
  apply Array.ext_getElem?
  intro j
  rw [h3 j]
  by_cases hj:j<9
  ·rw [if_pos (by simp;omega)]
   simp
  ·rw [if_neg (by simp;omega),Array.getElem?_eq_none (by omega),Array.getElem?_eq_none (by simp;omega)]
 rw [h1,this]
theorem flatP_set (ps:List (Value × Pt)) (hps:∀ x∈ps,(pc x.1).length=9) (i:Nat) (hi:i<ps.length) (x:Value × Pt) (hx:(pc x.1).length=9) (j:Nat) :
  (flatP (ps.set i x))[j]?=if i*9≤j∧j<i*9+9 then (pc x.1)[j - i*9]? else (flatP ps)[j]?:=by
 have e:j=(j / 9)*9+j % 9:=by omega
 have hm:j % 9<9:=Nat.mod_lt _ (by omega)
 have hps':∀ y∈ps.set i x,(pc y.1).length=9:=fun y hy=>by
  rcases List.mem_or_eq_of_mem_set hy with h | rfl
  ·exact hps y h
  ·exact hx
 have h1:=flatP_get (ps.set i x) (j / 9) (j % 9) hps' hm
 have h2:=flatP_get ps (j / 9) (j % 9) hps hm
 rw [← e] at h1 h2
 rw [h1,h2,List.getElem?_set]
 by_cases hd:i=j / 9
 ·rw [if_pos hd,if_pos (by omega),if_pos (by omega)]
  simp only [Option.bind_some]
  congr 1
  omega
 ·rw [if_neg hd,if_neg (by omega)]
theorem row_set {W N:World} {g cap n:Nat} {ps:List (Value × Pt)} (h:W.ownsRow 0 54 9 (.slice (some ⟨g,0,none⟩) n cap) ps.length (flatP ps)) (hps:∀ x∈ps,(pc x.1).length=9) (i:Nat) (hi:i<ps.length) {x:Value × Pt} (hx:(pc x.1).length=9) (hN:PutsR W N g (i*9) (pc x.1)) :
  N.ownsRow 0 54 9 (.slice (some ⟨g,0,none⟩) n cap) (ps.set i x).length (flatP (ps.set i x)):=by
 obtain ⟨h1,⟨e,h0⟩ | ⟨g',cap',cur,e,hB,hg,hn,hc,hs,ht⟩⟩:=h
 ·cases e
 ·cases e
  obtain ⟨cs',a1,a2,a3⟩:=hN.blk _ _ hg
  have hps':∀ y∈ps.set i x,(pc y.1).length=9:=fun y hy=>by
   rcases List.mem_or_eq_of_mem_set hy with h | rfl
   ·exact hps y h
   ·exact hx
  refine ⟨by rw [flatP_length _ hps'],.inr ⟨g,cap,cs',by simp,hB,a1,by simpa using hn,hc,by rw [a2];exact hs,?_⟩⟩
  rw [List.length_set]
  apply List.ext_getElem?
  intro j
  rw [flatP_set ps hps i hi x hx j,List.getElem?_take]
  have hL:=flatP_length ps hps
  by_cases hj:j<ps.length*9
  ·rw [if_pos hj]
   have h5:(flatP ps)[j]?=cur[j]?:=by
    rw [← ht,List.getElem?_take,if_pos hj]
    simp
   rw [h5]
   have h6:=a3 j
   rw [hx] at h6
   rw [Array.getElem?_toList,h6]
   by_cases hq:i*9≤j∧j<i*9+9
   ·rw [if_pos hq,if_pos ⟨by rw [hs];have:=Nat.mul_le_mul_right 9 hn;omega,hq.1,hq.2⟩]
   ·rw [if_neg hq,if_neg (fun hh=>hq hh.2)]
  ·rw [if_neg hj,if_neg (by omega),List.getElem?_eq_none (by omega)]
theorem ImC.part9 {w:World} {L:Nat→Prop} {q b:Nat} {vt vp ve:Value} {ps:List (Value × Pt)} {I:Im} (h:ImC w L q b vt vp ve ps I):∀ x∈ps,(pc x.1).length=9:=fun x hx=>pc_part (h.each x hx).1
theorem ImC.at_ {w:World} {L:Nat→Prop} {q b:Nat} {vt ve:Value} {g n cap:Nat} {ps:List (Value × Pt)} {I:Im} (h:ImC w L q b vt (.slice (some ⟨g,0,none⟩) n cap) ve ps I) (i:Nat) (x:Value × Pt) (hx:ps[i]?=some x) (t:Nat) (ht:t<9) (u:Value) (hu:(pc x.1)[t]?=some u):w.cell? ⟨g,i*9+t,none⟩=some u:=by
 have hc:=World.ownsRow.cells h.parts (g:=g) rfl (i*9+t) u (by rw [flatP_get ps i t h.part9 ht,hx];exact hu)
 have add0:(⟨g,0,none⟩:Addr).add (i*9+t)=⟨g,i*9+t,none⟩:=by unfold Addr.add;split <;> simp_all
 rw [add0] at hc
 exact hc
theorem field93a (l:Int) (u:Bool) (w:World):(Instr.field 93 (.agg #[.int .i64 l,.bool u]) 0).run Tryz.prog w=.ok (.int .i64 l) w:=by kernel_rfl
theorem field93b (l:Int) (u:Bool) (w:World):(Instr.field 93 (.agg #[.int .i64 l,.bool u]) 1).run Tryz.prog w=.ok (.bool u) w:=by kernel_rfl
theorem valB_at:∀ (bs:BM),bs.Pairwise (fun p q=>p.1<q.1)→∀ (k:Nat) (p:Int × Br),bs[k]?=some p→valB bs p.1=p.2
 | [],_,k,p,h=>by simp at h
 | y :: r,hp,0,p,h=>by
  simp at h
  subst h
  simp [valB,getB]
 | y :: r,hp,k+1,p,h=>by
  have h':=List.pairwise_cons.1 hp
  have hk:r[k]?=some p:=by simpa using h
  have hm:=List.mem_of_getElem? hk
  have hlt:=h'.1 p hm
  have ih:=valB_at r h'.2 k p hk
  have e:(y.1 == p.1)=false:=by simp;omega
  unfold valB getB at ih ⊢
  simp only [List.find?_cons,e]
  exact ih
theorem upL_snoc (l:BM) (k:Nat) (h:k<l.length):upL (l.take (k+1))=upL (l.take k)++(if l[k].2.up=true then [l[k].1] else []):=by
 rw [List.take_succ_eq_append_getElem h]
 unfold upL
 rw [List.filter_append,List.map_append]
 by_cases hu:l[k].2.up=true <;> simp [List.filter_cons,hu]
theorem up_any {w:World} {L:Nat→Prop} {q b:Nat} {vt vp ve:Value} {ps:List (Value × Pt)} {I:Im} (h:ImC w L q b vt vp ve ps I):Calls Tryz.prog 24 #[.pointer (some ⟨q,0,none⟩)] w fun e w'=>∃ v',e=.returned v'∧IL w' v' (upL I.brs)∧In (fun b=>w.heap.size≤b) v' (upL I.brs)∧Below w.heap.size w w':=by
 have H63:=hid (ids_any h)
 have HI:=hid h
 have hl7:=keys_few h.ok.keys (fun p hp=>(h.ok.brs p hp).1)
 have HK:=hid h.ok.keys
 have HBR:=hid h.ok.brs
 obtain ⟨i0,hi0,hz0,hz1,hz2⟩:=info3
 have hfa:=field93a
 have hfb:=field93b
 clear h
 generalize hbs:I.brs=bs at *
 go_enter Tryz.func24,Tryz.ntmps24
 go_wp2_with fail
 refine H63.out.mono ?_
 rintro e w1 ⟨v,rfl,hil,hb1⟩
 obtain ⟨⟨a,cap,rfl,hcap,hcm,hnn,hat⟩,hok,hfew⟩:=hil
 have HA:=hid hat
 have HB1:=hid hb1
 clear hat hok hnn hcap hcm hfew H63 hb1
 have hll:(bs.map (·.1)).length=bs.length:=by simp
 rw [hll]
 go_wp2_with fail
 go_loopg [3,9] bs.length (fun kx s3 s9 wr=>∃ k:Nat,k≤bs.length∧bs.length - k≤kx∧s9=.int .i64 (k:Int)∧Hid (wr.ownsRow w1.heap.size 3 1 s3 (upL (bs.take k)).length (vals (upL (bs.take k)))∧Below w1.heap.size w1 wr)∧(∃ a n c,s3=.slice a n c))
 case atStart=>exact ⟨0,Nat.zero_le _,by omega,rfl,⟨World.ownsRow_nil _ _ _ _,Below.refl _ _⟩,⟨_,_,_,rfl⟩⟩
 case round =>
  obtain ⟨k,hk,hkx,rfl,HR,⟨a1,n1,c1,rfl⟩⟩:=hrel
  by_cases hlt:k<bs.length
  ·obtain ⟨g,off,rfl,hg,hc⟩:=HA.out (by intro e;have:=congrArg List.length e;rw [List.length_map] at this;simp only [List.length_nil] at this;omega)
   have hck:=kept_cell HR.out.2 (hc k (by simpa using hlt))
   simp only [List.getElem_map] at hck
   have hx:bs[k]?=some bs[k]:=List.getElem?_eq_getElem hlt
   have hv:=valB_at bs HK.out k _ hx
   have hbr:=HBR.out bs[k] (by simp)
   have hlk:=(HI.out.under (HB1.out.trans (HR.out.2.mono HB1.out.size))).look bs[k].1 (by unfold I64;omega)
   rw [hbs,hv] at hlk
   have c1q:=(HI.out.under (HB1.out.trans (HR.out.2.mono HB1.out.size))).c1
   have HS:=hid (upL_snoc bs k hlt)
   have hlt':(k:Int)<(bs.length:Int):=by omega
   have hn1:(upL (bs.take k)).length≤k:=by have:=upL_len (bs.take k);rw [List.length_take] at this;omega
   generalize bs[k]=z at *
   obtain ⟨y,lf,u⟩:=z
   simp only [Br.val] at *
   clear hc hx hv
   have hy1:=hbr.1.1
   have hy2:=hbr.1.2
   clear hbr
   cases u with
   | true =>
    rw [if_pos rfl] at HS
    have HX:Hid ((wr.alloc (.cells #[.int .i64 y] 3)).ownsRow w1.heap.size 3 1 (.slice a1 n1 c1) (upL (bs.take k)).length (vals (upL (bs.take k)))):=HR.out.1.alloc _
    have HN1:Hid (∀ j u,([.int .i64 y]:List Value)[j]?=some u→(wr.alloc (.cells #[.int .i64 y] 3)).cell? ((⟨wr.heap.size,0,none⟩:Addr).add j)=some u):=fun j u hu=>by
     cases j with
     | zero=>simp at hu;subst hu;rw [add_at];exact cell_blk (heap_alloc_new _ _) 0 _ rfl
     | succ j=>simp at hu
    have HO1:Hid (∀ u∈([.int .i64 y]:List Value),u.oneCell'=true):=fun u hu=>by simp at hu;subst hu;rfl
    have hbs1:=HR.out.2.size
    go_wp2_with (at_builtin;go_loud (refine wpList_append_own_at _ rfl _ _ 23 rfl w1.heap.size 3 i0 _ 1 8 Tryz.underlying23 hi0 hz0 hz1 hz2 rfl (by decide) _ (upL (bs.take k)).length _ rfl HX.out ⟨wr.heap.size,0,none⟩ 1 1 [.int .i64 y] rfl rfl HN1.out HO1.out (by unfold maxLen;omega) (by omega) (by simp;omega) ?_);intro v2 w2 hown2 hg2 _ hat2)
    have hsh:∃ a n c,v2=.slice a n c:=by
     rcases hown2.2 with ⟨e,_⟩ | ⟨g,cp,cur,e,_⟩
     ·exact ⟨_,_,_,e⟩
     ·exact ⟨_,_,_,e⟩
    obtain ⟨a2,n2,c2,rfl⟩:=hsh
    have HB2:Hid (Below w1.heap.size w1 w2):=(HR.out.2.alloc hbs1 _).grown hg2 (by have:=(HR.out.2.alloc hbs1 (.cells #[.int .i64 y] 3)).size;exact this) (fun j hj=>(World.ownsRow.lt HX.out j hj).1)
    have HW2:=hid hown2
    clear hown2 hg2 hat2
    go_wp2_with fail
    go_roundg (bs.length - (k+1))
    case measure=>omega
    case rel=>exact ⟨k+1,by omega,Nat.le_refl _,by go_num,⟨by rw [HS.out];simp only [List.length_append,List.length_cons,List.length_nil,Nat.zero_add,vals,List.map_append,List.map_cons,List.map_nil];exact HW2.out,HB2.out⟩,⟨_,_,_,rfl⟩⟩
   | false =>
    rw [if_neg (by simp),List.append_nil] at HS
    go_wp2_with fail
    go_roundg (bs.length - (k+1))
    case measure=>omega
    case rel=>exact ⟨k+1,by omega,Nat.le_refl _,by go_num,(by rw [HS.out];exact HR.out),⟨_,_,_,rfl⟩⟩
  ·have hlt':¬ (k:Int)<(bs.length:Int):=by omega
   go_wp2_with fail
   go_ret
   have hr:=HR.out
   rw [List.take_of_length_le (by omega)] at hr
   exact ⟨_,rfl,IL.of hr.1 (fun x hx=>(by
    obtain ⟨p,hp,rfl⟩:=List.mem_map.1 hx
    have:=(HBR.out p (List.mem_filter.1 hp).1).1
    unfold I64;omega)) (by have:=upL_len bs;omega),(in_own hr.1).mono (fun k hk=>Nat.le_trans HB1.out.size hk),HB1.out.trans (hr.2.mono HB1.out.size)⟩
end Go.Proofs.YtcffomhcmilcpaaGreat
namespace Go.Proofs.YtcffomhcmilcpaaGreat
theorem nextP_eq (p:Pt) (l:Int):nextP p l=⟨p.id,l,if l=p.leader then p.epoch else p.epoch+1,p.ver+1,p.isr,p.reps,p.add,p.rem,p.min⟩:=by
 unfold nextP
 split
 ·rename_i h;subst h;rfl
 ·rfl
theorem changed_zero {p q:Pt} {l:Int} (h:changedP p l=(q,0)):q=nextP p l∧overB (nextP p l)=false:=by
 unfold changedP at h
 cases ho:overB (nextP p l) with
 | true=>rw [if_pos ho] at h;cases h
 | false=>rw [if_neg (by simp [ho])] at h;cases h;exact ⟨rfl,rfl⟩
theorem changed_cases (p:Pt) (l:Int):changedP p l=(Pt.zero,20)∨changedP p l=(nextP p l,0):=by
 unfold changedP
 split
 ·exact .inl rfl
 ·exact .inr rfl
theorem over_false {p:Pt} (h:overB p=false):p.epoch≤1000000000∧p.ver≤1000000000:=by
 unfold overB at h
 have:=of_decide_eq_false h
 omega
structure ListsP (p:Pt):Prop where
 id:1≤p.id∧p.id≤16
 min:1≤p.min∧p.min≤5
 isr:p.isr.Nodup∧∀ x∈p.isr,1≤x∧x≤7
 reps:p.reps.Nodup∧∀ x∈p.reps,1≤x∧x≤7
 add:p.add.Nodup∧∀ x∈p.add,1≤x∧x≤7
 rem:p.rem.Nodup∧∀ x∈p.rem,1≤x∧x≤7
 some:p.isr≠[]
 isrIn:∀ x∈p.isr,x∈p.reps
 addIn:∀ x∈p.add,x∈p.reps
 remIn:∀ x∈p.rem,x∈p.reps
 apart:∀ x∈p.rem,x ∉ p.add
 left:outL p.reps p.rem≠[]
theorem RightP.lists {p:Pt} (h:RightP p):ListsP p:=⟨h.id,h.min,h.isr,h.reps,h.add,h.rem,h.some,h.isrIn,h.addIn,h.remIn,h.apart,h.left⟩
theorem next_right {p:Pt} {l:Int} (h:ListsP p) (he:1≤p.epoch) (hv:1≤p.ver) (hl:l=0∨l∈p.isr) (ho:overB (nextP p l)=false):RightP (nextP p l):=by
 have ho':=over_false ho
 rw [nextP_eq] at *
 simp only at ho'
 refine ⟨h.id,h.min,⟨?_,ho'.1⟩,⟨by simp;omega,ho'.2⟩,h.isr,h.reps,h.add,h.rem,h.some,h.isrIn,h.addIn,h.remIn,h.apart,h.left,hl⟩
 simp only
 split <;> omega
theorem heir_spec (p:Pt) (up:List Int):heirP p up=0∨(heirP p up∈p.reps∧heirP p up∈p.isr∧heirP p up∈up∧heirP p up≠p.leader):=by
 unfold heirP headL
 cases hL:outL (inL (inL p.reps p.isr) up) [p.leader] with
 | nil=>left;rfl
 | cons x r =>
  right
  have:x∈outL (inL (inL p.reps p.isr) up) [p.leader]:=by rw [hL];simp
  rw [mem_outL,mem_inL,mem_inL] at this
  obtain ⟨⟨⟨h1,h2⟩,h3⟩,h4⟩:=this
  exact ⟨h1,h2,h3,by simpa using h4⟩
theorem outL_one {l:List Int} {b:Int} (hd:l.Nodup) (h:1<l.length):outL l [b]≠[]:=by
 match l,hd,h with
 | x :: y :: r,hd,_ =>
  intro e
  have hx:x ∉ outL (x :: y :: r) [b]:=by rw [e];simp
  have hy:y ∉ outL (x :: y :: r) [b]:=by rw [e];simp
  rw [mem_outL] at hx hy
  simp at hx hy hd
  omega
theorem ids_outL {l m:List Int} (h:l.Nodup∧∀ x∈l,1≤x∧x≤7):(outL l m).Nodup∧∀ x∈outL l m,1≤x∧x≤7:=⟨nodup_outL h.1,fun x hx=>h.2 x (mem_outL.1 hx).1⟩
theorem ids_inL {l m:List Int} (h:l.Nodup∧∀ x∈l,1≤x∧x≤7):(inL l m).Nodup∧∀ x∈inL l m,1≤x∧x≤7:=⟨nodup_inL h.1,fun x hx=>h.2 x (mem_inL.1 hx).1⟩
theorem ids_nil:([]:List Int).Nodup∧∀ x∈([]:List Int),1≤x∧x≤7:=⟨by simp,fun x hx=>by cases hx⟩
theorem outL_nil (l:List Int):outL l []=l:=outL_self fun x _ h=>by cases h
def Rules (p q:Pt) (k:Int):Prop:=RightP q∧(q=p∨(q.id=p.id∧q.min=p.min∧q.ver=p.ver+1∧((q.leader=p.leader∧q.epoch=p.epoch)∨(q.leader≠p.leader∧q.epoch=p.epoch+1)) ∧
 (q.leader≠p.leader→q.leader≠0→q.leader∈p.isr∧q.leader∈q.isr)∧(∀ x∈p.reps,x∈q.reps∨(k=5∧x∈p.add)∨(k=6∧∀ y∈q.reps,y∈q.isr))))
theorem rules_next {p n:Pt} {l k:Int} (hp:RightP p) (hn:ListsP n) (e1:n.id=p.id) (e2:n.min=p.min) (e3:n.ver=p.ver) (e4:n.epoch=p.epoch) (e5:n.leader=p.leader)
  (hl:l=0∨l∈n.isr) (hll:l≠p.leader→l≠0→l∈p.isr) (hr:∀ x∈p.reps,x∈n.reps∨(k=5∧x∈p.add)∨(k=6∧∀ y∈n.reps,y∈n.isr)) (ho:overB (nextP n l)=false):Rules p (nextP n l) k:=by
 refine ⟨next_right hn (by rw [e4];exact hp.epoch.1) (by rw [e3];exact hp.ver.1) hl ho,.inr ?_⟩
 rw [nextP_eq]
 refine ⟨e1,e2,by simp only;rw [e3],?_,?_,hr⟩
 ·simp only
  by_cases h:l=p.leader
  ·left;exact ⟨h,by rw [if_pos (by rw [e5];exact h),e4]⟩
  ·right;exact ⟨h,by rw [if_neg (by rw [e5];exact h),e4]⟩
 ·intro h1 h2
  refine ⟨hll h1 h2,?_⟩
  rcases hl with h | h
  ·exact absurd h h2
  ·exact h
theorem elect_rules {p q:Pt} {l k:Int} (hp:RightP p) (h:electP p l=(q,0)):Rules p q k:=by
 unfold electP at h
 rw [rightB_iff.2 hp] at h
 split at h
 ·cases h
 split at h
 ·cases h
 rename_i h2
 split at h
 ·cases h;exact ⟨hp,.inl rfl⟩
 obtain ⟨rfl,ho⟩:=changed_zero h
 have hl:l=0∨l∈p.isr:=by
  by_cases h0:l=0
  ·exact .inl h0
  ·right
   simp [h0,lackB] at h2
   exact hasB_iff.1 h2
 exact rules_next hp hp.lists rfl rfl rfl rfl rfl hl (fun _ h0=>hl.resolve_left h0) (fun x hx=>.inl hx) ho
theorem back_rules {p q:Pt} {b k:Int} (hp:RightP p) (h:backP p b=(q,0)):Rules p q k:=by
 unfold backP at h
 split at h
 ·cases h
 split at h
 ·cases h;exact ⟨hp,.inl rfl⟩
 rename_i h2
 obtain ⟨rfl,ho⟩:=changed_zero h
 have hb:b∈p.isr:=by
  simp [lackB] at h2
  exact hasB_iff.1 h2.2
 exact rules_next hp hp.lists rfl rfl rfl rfl rfl (.inr hb) (fun _ _=>hb) (fun x hx=>.inl hx) ho
theorem fen_sub {p:Pt} {b x:Int} (h:x∈fenIsr p b):x∈p.isr:=by
 unfold fenIsr at h
 split at h
 ·exact (mem_outL.1 h).1
 ·exact h
theorem fen_lists {p:Pt} {b:Int} (hp:RightP p):ListsP (fenP p b):=by
 refine ⟨hp.id,hp.min,?_,hp.reps,hp.add,hp.rem,?_,fun x hx=>hp.isrIn x (fen_sub hx),hp.addIn,hp.remIn,hp.apart,hp.left⟩
 ·show (fenIsr p b).Nodup∧∀ x∈fenIsr p b,1≤x∧x≤7
  unfold fenIsr
  split
  ·exact ids_outL hp.isr
  ·exact hp.isr
 ·show fenIsr p b≠[]
  unfold fenIsr
  split
  ·rename_i h;exact outL_one hp.isr.1 h
  ·exact hp.some
theorem fen_keep {p:Pt} {b x:Int} (hx:x∈p.isr) (hne:x≠b):x∈fenIsr p b:=by
 unfold fenIsr
 split
 ·exact mem_outL.2 ⟨hx,by simpa using hne⟩
 ·exact hx
theorem fen_full {p:Pt} {b:Int} (h:(fenIsr p b).length=p.isr.length):fenIsr p b=p.isr:=by
 unfold fenIsr at *
 split
 ·rename_i hc;rw [if_pos hc] at h;exact outL_full h
 ·rfl
theorem fenL_spec {p:Pt} {b:Int} (up:List Int) (hp:RightP p):fenL p b up=0∨fenL p b up∈fenIsr p b:=by
 unfold fenL
 split
 ·rcases heir_spec (fenP p b) up with h | ⟨_,h,_⟩
  ·exact .inl h
  ·exact .inr h
 ·rename_i hne
  rcases hp.lead with h | h
  ·exact .inl h
  ·exact .inr (fen_keep h hne)
theorem fence_rules {p q:Pt} {b k:Int} {up:List Int} (hp:RightP p) (h:fenceP p b up=(q,0)):Rules p q k:=by
 unfold fenceP at h
 split at h
 ·cases h
 split at h
 ·rename_i h2
  cases h
  have e:fenP p b=p:=by unfold fenP;rw [fen_full h2.2]
  rw [e]
  exact ⟨hp,.inl rfl⟩
 obtain ⟨rfl,ho⟩:=changed_zero h
 have hl:=fenL_spec (b:=b) up hp
 exact rules_next hp (fen_lists hp) rfl rfl rfl rfl rfl hl (fun _ h0=>fen_sub (hl.resolve_left h0)) (fun x hx=>.inl hx) ho
theorem alter_rules {p q:Pt} {l e v k:Int} {isr up:List Int} (hp:RightP p) (h:alterP p l e v isr up=(q,0)):Rules p q k:=by
 unfold alterP at h
 split at h
 ·cases h
 split at h
 ·rename_i h2;exact absurd (congrArg Prod.snd h) h2
 split at h
 ·cases h
 rename_i h3
 split at h
 ·cases h
 rename_i h4
 obtain ⟨rfl,ho⟩:=changed_zero h
 have hs:syncB p isr up=true:=by simpa using h4
 unfold syncB at hs
 simp only [Bool.and_eq_true] at hs
 have h0:l≠0:=fun e=>h3 (.inl e)
 have h5:l=p.leader:=Decidable.byContradiction fun e=>h3 (.inr e)
 have hli:l∈p.isr:=by rw [h5];exact hp.lead.resolve_left (by rw [← h5];exact h0)
 have hln:l∈inL p.reps isr:=mem_inL.2 ⟨hp.isrIn l hli,by rw [h5];exact hasB_iff.1 hs.1.1.2⟩
 have hL:ListsP { p with isr:=inL p.reps isr }:=⟨hp.id,hp.min,ids_inL hp.reps,hp.reps,hp.add,hp.rem,(fun e=>by have:=hln;simp only at e;rw [e] at this;cases this),fun x hx=>(mem_inL.1 hx).1,hp.addIn,hp.remIn,hp.apart,hp.left⟩
 exact rules_next hp hL rfl rfl rfl rfl rfl (.inr hln) (fun hne _=>absurd h5 hne) (fun x hx=>.inl hx) ho
theorem may_spec {t:List Int} (h:mayB t=true):t≠[]∧t.length≤5∧(t.Nodup∧∀ x∈t,1≤x∧x≤7):=by
 unfold mayB at h
 simp only [Bool.and_eq_true] at h
 have h1:=upB_iff.1 h.1
 refine ⟨fun e=>by rw [e] at h1;simp at h1,by omega,idsB_iff.1 h.2⟩
theorem beg_lists {p:Pt} {t:List Int} (hp:RightP p) (ht:t≠[]∧t.length≤5∧(t.Nodup∧∀ x∈t,1≤x∧x≤7)):ListsP (begP p t):=by
 have hin:∀ x,x∈t++outL p.reps t ↔ x∈t∨x∈p.reps:=fun x=>by
  rw [List.mem_append,mem_outL]
  by_cases hx:x∈t <;> simp [hx]
 have hidr:=ids_outL (m:=t) hp.reps
 refine ⟨hp.id,hp.min,hp.isr,⟨?_,fun x hx=>?_⟩,ids_outL ht.2.2,hidr,hp.some,fun x hx=>(hin x).2 (.inr (hp.isrIn x hx)),fun x hx=>(hin x).2 (.inl (mem_outL.1 hx).1),fun x hx=>(hin x).2 (.inr (mem_outL.1 hx).1),fun x hx hy=>(mem_outL.1 hx).2 (mem_outL.1 hy).1,?_⟩
 ·show (t++outL p.reps t).Nodup
  exact List.nodup_append.2 ⟨ht.2.2.1,hidr.1,fun a ha b hb e=>by subst e;exact (mem_outL.1 hb).2 ha⟩
 ·rcases List.mem_append.1 hx with h | h
  ·exact ht.2.2.2 x h
  ·exact hidr.2 x h
 ·show outL (t++outL p.reps t) (outL p.reps t)≠[]
  intro e
  cases t with
  | nil=>exact ht.1 rfl
  | cons y r =>
   have:y∈outL ((y :: r)++outL p.reps (y :: r)) (outL p.reps (y :: r)):=mem_outL.2 ⟨by simp,fun h=>(mem_outL.1 h).2 (by simp)⟩
   rw [e] at this
   cases this
theorem begin_cases {p:Pt} {t up:List Int} {q:Pt} (h:beginP p t up=(q,0)):(t≠[]∧t.length≤5∧(t.Nodup∧∀ x∈t,1≤x∧x≤7))∧movingB p=false∧(∀ x∈outL t p.reps,x∈up)∧((p.reps=t∧q=p)∨(p.reps≠t∧q=nextP (begP p t) p.leader∧overB (nextP (begP p t) p.leader)=false)):=by
 unfold beginP at h
 split at h
 ·cases h
 rename_i h1
 split at h
 ·cases h
 rename_i h2
 split at h
 ·cases h
 rename_i h3
 have hm:mayB t=true:=by simp at h1;exact h1.2
 refine ⟨may_spec hm,by simpa using h2,fun x hx=>?_,?_⟩
 ·have:(outL t p.reps).all (hasB up)=true:=by simpa using h3
  exact hasB_iff.1 (List.all_eq_true.1 this x hx)
 ·split at h
  ·rename_i h4;cases h;exact .inl ⟨h4,rfl⟩
  ·rename_i h4;obtain ⟨rfl,ho⟩:=changed_zero h;exact .inr ⟨h4,rfl,ho⟩
theorem begin_rules {p q:Pt} {t up:List Int} {k:Int} (hp:RightP p) (h:beginP p t up=(q,0)):Rules p q k:=by
 obtain ⟨ht,_,_,hc⟩:=begin_cases h
 rcases hc with ⟨_,rfl⟩ | ⟨_,rfl,ho⟩
 ·exact ⟨hp,.inl rfl⟩
 ·refine rules_next hp (beg_lists hp ht) rfl rfl rfl rfl rfl hp.lead (fun hne=>absurd rfl hne) (fun x hx=>.inl ?_) ho
  show x∈t++outL p.reps t
  rw [List.mem_append,mem_outL]
  by_cases hxt:x∈t <;> simp [hxt,hx]
theorem setL_spec {p:Pt} {g:List Int} (up:List Int) (hp:RightP p):setL p g up=0∨setL p g up∈outL p.isr g:=by
 unfold setL
 split
 ·rcases heir_spec (setP p g) up with h | ⟨_,h,_⟩
  ·exact .inl h
  ·exact .inr h
 ·rename_i hne
  rcases hp.lead with h | h
  ·exact .inl h
  ·exact .inr (mem_outL.2 ⟨h,fun e=>hne (hasB_iff.2 e)⟩)
theorem set_lists {p:Pt} {g:List Int} (hp:RightP p) (hs:outL p.isr g≠[]):ListsP (setP p g):=by
 refine ⟨hp.id,hp.min,ids_outL hp.isr,ids_outL hp.reps,ids_nil,ids_nil,hs,fun x hx=>mem_outL.2 ⟨hp.isrIn x (mem_outL.1 hx).1,(mem_outL.1 hx).2⟩,fun x hx=>(by cases hx),fun x hx=>(by cases hx),fun x hx=>(by cases hx),?_⟩
 show outL (outL p.reps g) []≠[]
 rw [outL_nil]
 intro e
 cases hL:outL p.isr g with
 | nil=>exact hs hL
 | cons x r =>
  have hx:x∈outL p.isr g:=by rw [hL];simp
  have:x∈outL p.reps g:=mem_outL.2 ⟨hp.isrIn x (mem_outL.1 hx).1,(mem_outL.1 hx).2⟩
  rw [e] at this
  cases this
theorem finish_cases {p q:Pt} {up:List Int} (h:finishP p up=(q,0)):movingB p=true∧(∀ x∈targetsP p,x∈p.isr)∧q=nextP (setP p p.rem) (setL p p.rem up)∧overB (nextP (setP p p.rem) (setL p p.rem up))=false:=by
 unfold finishP at h
 split at h
 ·cases h
 split at h
 ·cases h
 rename_i h2
 simp only [Bool.or_eq_true,Bool.not_eq_true',not_or] at h2
 obtain ⟨rfl,ho⟩:=changed_zero h
 refine ⟨by simpa using h2.1,fun x hx=>?_,rfl,ho⟩
 have:(targetsP p).all (hasB p.isr)=true:=by simpa using h2.2
 exact hasB_iff.1 (List.all_eq_true.1 this x hx)
theorem finish_rules {p q:Pt} {up:List Int} (hp:RightP p) (h:finishP p up=(q,0)):Rules p q 6:=by
 obtain ⟨_,h2,rfl,ho⟩:=finish_cases h
 have hs:outL p.isr p.rem≠[]:=by
  intro e
  cases hL:outL p.reps p.rem with
  | nil=>exact hp.left hL
  | cons x r =>
   have hx:x∈outL p.reps p.rem:=by rw [hL];simp
   have:x∈outL p.isr p.rem:=mem_outL.2 ⟨h2 x hx,(mem_outL.1 hx).2⟩
   rw [e] at this
   cases this
 have hl:=setL_spec (g:=p.rem) up hp
 refine rules_next hp (set_lists hp hs) rfl rfl rfl rfl rfl hl (fun _ h0=>(mem_outL.1 (hl.resolve_left h0)).1) (fun x hx=>.inr (.inr ⟨rfl,fun y hy=>?_⟩)) ho
 exact mem_outL.2 ⟨h2 y hy,(mem_outL.1 hy).2⟩
theorem cancel_cases {p q:Pt} {up:List Int} (h:cancelP p up=(q,0)):movingB p=true∧¬ (∀ x∈p.isr,x∈p.add)∧q=nextP (setP p p.add) (setL p p.add up)∧overB (nextP (setP p p.add) (setL p p.add up))=false:=by
 unfold cancelP at h
 split at h
 ·cases h
 split at h
 ·cases h
 rename_i h2
 simp only [Bool.or_eq_true,Bool.not_eq_true',not_or] at h2
 obtain ⟨rfl,ho⟩:=changed_zero h
 refine ⟨by simpa using h2.1,fun hx=>h2.2 (List.all_eq_true.2 fun x hxx=>hasB_iff.2 (hx x hxx)),rfl,ho⟩
theorem cancel_rules {p q:Pt} {up:List Int} (hp:RightP p) (h:cancelP p up=(q,0)):Rules p q 5:=by
 obtain ⟨_,h2,rfl,ho⟩:=cancel_cases h
 have hs:outL p.isr p.add≠[]:=fun e=>h2 fun x hx=>Decidable.byContradiction fun hn=>by
  have:x∈outL p.isr p.add:=mem_outL.2 ⟨hx,hn⟩
  rw [e] at this
  cases this
 have hl:=setL_spec (g:=p.add) up hp
 refine rules_next hp (set_lists hp hs) rfl rfl rfl rfl rfl hl (fun _ h0=>(mem_outL.1 (hl.resolve_left h0)).1) (fun x hx=>?_) ho
 by_cases hxa:x∈p.add
 ·exact .inr (.inl ⟨rfl,hxa⟩)
 ·exact .inl (mem_outL.2 ⟨hx,hxa⟩)
end Go.Proofs.YtcffomhcmilcpaaGreat
