/- Same: the document's. -/
import Derived.Test.YtcffomhcmilcpaaGreatC26
set_option maxRecDepth 100000
set_option maxHeartbeats 20000000
set_option linter.unusedVariables false
set_option linter.unusedSimpArgs false
namespace Go.Proofs.YtcffomhcmilcpaaGreat
open Go.RowKit Go.Maps
theorem sd1 (a b c d e f g h i:Bool):(a && b && c && d && e && f && g && h && i)=(f && (g && (h && (i && (a && (b && (c && (d && e)))))))):=by
 cases a <;> cases b <;> cases c <;> cases d <;> cases e <;> cases f <;> cases g <;> cases h <;> cases i <;> rfl
theorem rsameP_any {w:World} {v v2:Value} {p p2:Pt} (h:PartM w v p) (h2:PartM w v2 p2):Calls Tryz.prog 39 #[v,v2] w fun e w'=>e=.returned (.bool (sameP p p2))∧Below w.heap.size w w':=by
 obtain ⟨id,ld,ep,vr,isr,reps,add,rem,mn⟩:=p
 obtain ⟨a1,c1,a2,c2,a3,c3,a4,c4,rfl,q1,q2,q3,q4,i0,i1,i2,i3,i4⟩:=h.open
 simp only at q1 q2 q3 q4 i0 i1 i2 i3 i4 ⊢
 have Q1:=hid q1
 have Q2:=hid q2
 have Q3:=hid q3
 have Q4:=hid q4
 clear h q1 q2 q3 q4
 obtain ⟨id2,ld2,ep2,vr2,isr2,reps2,add2,rem2,mn2⟩:=p2
 obtain ⟨b1,d1,b2,d2,b3,d3,b4,d4,rfl,q1,q2,q3,q4,_⟩:=h2.open
 simp only at q1 q2 q3 q4
 have R1:=hid q1
 have R2:=hid q2
 have R3:=hid q3
 have R4:=hid q4
 have HT0:=hid (two_new w (PL id ld ep vr a1 isr c1 a2 reps c2 a3 add c3 a4 rem c4 mn) (PL id2 ld2 ep2 vr2 b1 isr2 d1 b2 reps2 d2 b3 add2 d3 b4 rem2 d4 mn2))
 have G1:Hid (∀ W,Below w.heap.size w W→Calls Tryz.prog 85 #[.slice a1 isr.length c1,.slice b1 isr2.length d1] W fun e w'=>e=.returned (.bool (decide (isr=isr2)))∧Below W.heap.size W w'):=fun W hb=>rsame_any (Q1.out.under hb) (R1.out.under hb)
 have G2:Hid (∀ W,Below w.heap.size w W→Calls Tryz.prog 85 #[.slice a2 reps.length c2,.slice b2 reps2.length d2] W fun e w'=>e=.returned (.bool (decide (reps=reps2)))∧Below W.heap.size W w'):=fun W hb=>rsame_any (Q2.out.under hb) (R2.out.under hb)
 have G3:Hid (∀ W,Below w.heap.size w W→Calls Tryz.prog 85 #[.slice a3 add.length c3,.slice b3 add2.length d3] W fun e w'=>e=.returned (.bool (decide (add=add2)))∧Below W.heap.size W w'):=fun W hb=>rsame_any (Q3.out.under hb) (R3.out.under hb)
 have G4:Hid (∀ W,Below w.heap.size w W→Calls Tryz.prog 85 #[.slice a4 rem.length c4,.slice b4 rem2.length d4] W fun e w'=>e=.returned (.bool (decide (rem=rem2)))∧Below W.heap.size W w'):=fun W hb=>rsame_any (Q4.out.under hb) (R4.out.under hb)
 have HN:Hid (sameP ⟨id,ld,ep,vr,isr,reps,add,rem,mn⟩ ⟨id2,ld2,ep2,vr2,isr2,reps2,add2,rem2,mn2⟩=(decide (isr=isr2) && (decide (reps=reps2) && (decide (add=add2) && (decide (rem=rem2) && (decide (id=id2) && (decide (ld=ld2) && (decide (ep=ep2) && (decide (vr=vr2) && decide (mn=mn2)))))))))):=sd1 _ _ _ _ _ _ _ _ _
 rw [HN.out]
 generalize decide (isr=isr2)=B1 at *
 generalize decide (reps=reps2)=B2 at *
 generalize decide (add=add2)=B3 at *
 generalize decide (rem=rem2)=B4 at *
 clear HN h2 q1 q2 q3 q4 i0 i1 i2 i3 i4 Q1 Q2 Q3 Q4 R1 R2 R3 R4
 go_enter Tryz.func39,Tryz.ntmps39
 go_wp2_with fail
 generalize (w.alloc (.cells (PL id ld ep vr a1 isr c1 a2 reps c2 a3 add c3 a4 rem c4 mn) 54)).alloc (.cells (PL id2 ld2 ep2 vr2 b1 isr2 d1 b2 reps2 d2 b3 add2 d3 b4 rem2 d4 mn2) 54)=W0 at *
 refine (G1.out _ HT0.out.b).mono ?_
 rintro e W1 ⟨rfl,hb⟩
 have HT1:=hid (HT0.out.next hb)
 clear hb
 have k1:=cell_blk HT1.out.x 5 _ rfl
 have z1:=cell_blk HT1.out.z 5 _ rfl
 go_wp2_with fail
 refine (G2.out _ HT1.out.b).mono ?_
 rintro e W2 ⟨rfl,hb⟩
 have HT2:=hid (HT1.out.next hb)
 clear hb
 have k2:=cell_blk HT2.out.x 6 _ rfl
 have z2:=cell_blk HT2.out.z 6 _ rfl
 go_wp2_with fail
 refine (G3.out _ HT2.out.b).mono ?_
 rintro e W3 ⟨rfl,hb⟩
 have HT3:=hid (HT2.out.next hb)
 clear hb
 have k3:=cell_blk HT3.out.x 7 _ rfl
 have z3:=cell_blk HT3.out.z 7 _ rfl
 go_wp2_with fail
 refine (G4.out _ HT3.out.b).mono ?_
 rintro e W4 ⟨rfl,hb⟩
 have HT4:=hid (HT3.out.next hb)
 clear hb
 have m0:=cell_blk HT4.out.x 0 _ rfl
 have m1:=cell_blk HT4.out.x 1 _ rfl
 have m2:=cell_blk HT4.out.x 2 _ rfl
 have m3:=cell_blk HT4.out.x 3 _ rfl
 have m8:=cell_blk HT4.out.x 8 _ rfl
 have n0:=cell_blk HT4.out.z 0 _ rfl
 have n1:=cell_blk HT4.out.z 1 _ rfl
 have n2:=cell_blk HT4.out.z 2 _ rfl
 have n3:=cell_blk HT4.out.z 3 _ rfl
 have n8:=cell_blk HT4.out.z 8 _ rfl
 cases B1
 ·go_wp2_with fail
  go_ret
  exact ⟨ret_bool (by simp),HT4.out.b⟩
 cases B2
 ·go_wp2_with fail
  go_ret
  exact ⟨ret_bool (by simp),HT4.out.b⟩
 cases B3
 ·go_wp2_with fail
  go_ret
  exact ⟨ret_bool (by simp),HT4.out.b⟩
 cases B4
 ·go_wp2_with fail
  go_ret
  exact ⟨ret_bool (by simp),HT4.out.b⟩
 by_cases hid:id=id2
 case neg =>
  have hbid:(id == id2)=false:=by simp [hid]
  go_wp2_with fail
  go_ret
  exact ⟨ret_bool (by simp [hid]),HT4.out.b⟩
 subst hid
 by_cases hld:ld=ld2
 case neg =>
  have hbld:(ld == ld2)=false:=by simp [hld]
  go_wp2_with fail
  go_ret
  exact ⟨ret_bool (by simp [hld]),HT4.out.b⟩
 subst hld
 by_cases hep:ep=ep2
 case neg =>
  have hbep:(ep == ep2)=false:=by simp [hep]
  go_wp2_with fail
  go_ret
  exact ⟨ret_bool (by simp [hep]),HT4.out.b⟩
 subst hep
 by_cases hvr:vr=vr2
 case neg =>
  have hbvr:(vr == vr2)=false:=by simp [hvr]
  go_wp2_with fail
  go_ret
  exact ⟨ret_bool (by simp [hvr]),HT4.out.b⟩
 subst hvr
 go_wp2_with fail
 go_ret
 exact ⟨ret_bool (by first | rfl | (rw [Bool.eq_iff_iff];simp)),HT4.out.b⟩
theorem nine_x {w W:World} {cs zs:Array Value} (h:TwoB w W cs zs) (hz:cs.size=9) (v0 v1 v2 v3 v4 v5 v6 v7 v8:Value):TwoB w ((((((((((W.setCell ⟨w.heap.size,0,none⟩ (v0)).setCell ⟨w.heap.size,1,none⟩ (v1)).setCell ⟨w.heap.size,2,none⟩ (v2)).setCell ⟨w.heap.size,3,none⟩ (v3)).setCell ⟨w.heap.size,4,none⟩ (v4)).setCell ⟨w.heap.size,5,none⟩ (v5)).setCell ⟨w.heap.size,6,none⟩ (v6)).setCell ⟨w.heap.size,7,none⟩ (v7)).setCell ⟨w.heap.size,8,none⟩ (v8))) #[v0,v1,v2,v3,v4,v5,v6,v7,v8] zs:=by
 obtain ⟨l⟩:=cs
 match l,hz,h with
 | [z0,z1,z2,z3,z4,z5,z6,z7,z8],_,h =>
  have h0:TwoB w _ #[v0,z1,z2,z3,z4,z5,z6,z7,z8] zs:=h.setx 0 v0
  have h1:TwoB w _ #[v0,v1,z2,z3,z4,z5,z6,z7,z8] zs:=h0.setx 1 v1
  have h2:TwoB w _ #[v0,v1,v2,z3,z4,z5,z6,z7,z8] zs:=h1.setx 2 v2
  have h3:TwoB w _ #[v0,v1,v2,v3,z4,z5,z6,z7,z8] zs:=h2.setx 3 v3
  have h4:TwoB w _ #[v0,v1,v2,v3,v4,z5,z6,z7,z8] zs:=h3.setx 4 v4
  have h5:TwoB w _ #[v0,v1,v2,v3,v4,v5,z6,z7,z8] zs:=h4.setx 5 v5
  have h6:TwoB w _ #[v0,v1,v2,v3,v4,v5,v6,z7,z8] zs:=h5.setx 6 v6
  have h7:TwoB w _ #[v0,v1,v2,v3,v4,v5,v6,v7,z8] zs:=h6.setx 7 v7
  have h8:TwoB w _ #[v0,v1,v2,v3,v4,v5,v6,v7,v8] zs:=h7.setx 8 v8
  exact h8
theorem IA.nine {w W:World} {v:Value} {l:List Int} (h:IA w W v l) (v0 v1 v2 v3 v4 v5 v6 v7 v8:Value):IA w ((((((((((W.setCell ⟨w.heap.size,0,none⟩ (v0)).setCell ⟨w.heap.size,1,none⟩ (v1)).setCell ⟨w.heap.size,2,none⟩ (v2)).setCell ⟨w.heap.size,3,none⟩ (v3)).setCell ⟨w.heap.size,4,none⟩ (v4)).setCell ⟨w.heap.size,5,none⟩ (v5)).setCell ⟨w.heap.size,6,none⟩ (v6)).setCell ⟨w.heap.size,7,none⟩ (v7)).setCell ⟨w.heap.size,8,none⟩ (v8))) v l:=by
 obtain ⟨h1,h2⟩:=nine_off W w.heap.size v0 v1 v2 v3 v4 v5 v6 v7 v8
 exact ⟨h.1.off (q:=w.heap.size) (h.2.mono fun b hb=>by omega) h1 h2,h.2⟩
theorem relect_any {w:World} {v:Value} {p:Pt} (h:PartM w v p) (l:Int) (hl:I64 l) :
  Calls Tryz.prog 84 #[v,.int .i64 l] w fun e w'=>Res (fun b=>w.heap.size≤b) w (electP p l) e w':=by
 obtain ⟨id,ld,ep,vr,isr,reps,add,rem,mn⟩:=p
 obtain ⟨a1,c1,a2,c2,a3,c3,a4,c4,rfl,q1,q2,q3,q4,i0,i1,i2,i3,i4⟩:=h.open
 simp only at q1 q2 q3 q4 i0 i1 i2 i3 i4 ⊢
 have Q1:=hid q1
 have Q2:=hid q2
 have Q3:=hid q3
 have Q4:=hid q4
 clear h q1 q2 q3 q4
 have HT0:=hid (two_new w (PL id ld ep vr a1 isr c1 a2 reps c2 a3 add c3 a4 rem c4 mn) PZ)
 have G13:Hid (∀ W,Below w.heap.size w W→Calls Tryz.prog 106 #[.agg (PL id ld ep vr a1 isr c1 a2 reps c2 a3 add c3 a4 rem c4 mn)] W fun e w'=>e=.returned (.bool (rightB ⟨id,ld,ep,vr,isr,reps,add,rem,mn⟩))∧Below W.heap.size W w'):=fun W hb=>rright_any ⟨_,_,_,_,rfl,Q1.out.under hb,Q2.out.under hb,Q3.out.under hb,Q4.out.under hb,i0,i1,i2,i3,i4⟩
 have G60:Hid (∀ W,Below w.heap.size w W→Calls Tryz.prog 125 #[.agg (PL id ld ep vr a1 isr c1 a2 reps c2 a3 add c3 a4 rem c4 mn)] W fun e w'=>∃ v',e=.returned v'∧PartM w' v' ⟨id,ld,ep,vr,isr,reps,add,rem,mn⟩∧InP (fun b=>W.heap.size≤b) v' ⟨id,ld,ep,vr,isr,reps,add,rem,mn⟩∧Below W.heap.size W w'):=fun W hb=>rclone_any ⟨_,_,_,_,rfl,Q1.out.under hb,Q2.out.under hb,Q3.out.under hb,Q4.out.under hb,i0,i1,i2,i3,i4⟩
 have HE:Hid (electP ⟨id,ld,ep,vr,isr,reps,add,rem,mn⟩ l=if !rightB ⟨id,ld,ep,vr,isr,reps,add,rem,mn⟩ || (!decide (l=0) && !upB l 7) then (Pt.zero,1) else if !decide (l=0) && lackB isr l then (Pt.zero,19) else if l=ld then (⟨id,ld,ep,vr,isr,reps,add,rem,mn⟩,0) else changedP ⟨id,ld,ep,vr,isr,reps,add,rem,mn⟩ l):=rfl
 have HBD:Hid (rightB ⟨id,ld,ep,vr,isr,reps,add,rem,mn⟩=true→(1≤ep∧ep≤1000000000)∧(1≤vr∧vr≤1000000000)):=fun e=>⟨(rightB_iff.1 e).epoch,(rightB_iff.1 e).ver⟩
 generalize electP ⟨id,ld,ep,vr,isr,reps,add,rem,mn⟩ l=r at *
 generalize hc:changedP ⟨id,ld,ep,vr,isr,reps,add,rem,mn⟩ l=r2 at *
 obtain ⟨⟨rid,rld,rep,rvr,rl1,rl2,rl3,rl4,rmn⟩,re⟩:=r2
 have HC:=hid hc
 generalize rightB ⟨id,ld,ep,vr,isr,reps,add,rem,mn⟩=B1 at *
 clear hc i0 i1 i2 i3 i4 Q1 Q2 Q3 Q4
 go_enter Tryz.func84,Tryz.ntmps84
 go_wp2_with fail
 generalize (w.alloc (.cells (PL id ld ep vr a1 isr c1 a2 reps c2 a3 add c3 a4 rem c4 mn) 54)).alloc (.cells PZ 54)=W0 at *
 refine (G13.out _ HT0.out.b).mono ?_
 rintro e W1 ⟨rfl,hb⟩
 have HT1:=hid (HT0.out.next hb)
 clear hb
 obtain ⟨k0,k1,k2,k3,k4,k5,k6,k7,k8⟩:=cells9 HT1.out.x
 obtain ⟨z0,z1,z2,z3,z4,z5,z6,z7,z8⟩:=cells9 HT1.out.z
 have fx:=frz_blk HT1.out.x
 have fz:=frz_blk HT1.out.z
 cases B1
 ·have HR:Hid (r=(Pt.zero,1)):=by show _=_;rw [HE.out];simp
  go_wp2_with fail
  exact leaf9 HT1.out rfl Tryz.results84 (n:=.int .i64 1) rfl rfl rfl fun W9 HT9 hsz9 HOFF=>(by rw [HR.out];exact res_err _ HT9.out.b)
 obtain ⟨hep,hvr⟩:=HBD.out rfl
 by_cases hn:l<0
 ·have HR:Hid (r=(Pt.zero,1)):=by
   show _=_
   have h1:¬ l=0:=by omega
   have h2:upB l 7=false:=by simp [upB];omega
   rw [HE.out];simp [h1,h2]
  go_wp2_with fail
  exact leaf9 HT1.out rfl Tryz.results84 (n:=.int .i64 1) rfl rfl rfl fun W9 HT9 hsz9 HOFF=>(by rw [HR.out];exact res_err _ HT9.out.b)
 by_cases h7:7<l
 ·have HR:Hid (r=(Pt.zero,1)):=by
   show _=_
   have h1:¬ l=0:=by omega
   have h2:upB l 7=false:=by simp [upB];omega
   rw [HE.out];simp [h1,h2]
  go_wp2_with fail
  exact leaf9 HT1.out rfl Tryz.results84 (n:=.int .i64 1) rfl rfl rfl fun W9 HT9 hsz9 HOFF=>(by rw [HR.out];exact res_err _ HT9.out.b)
 have HE2:Hid (r=if !decide (l=0) && lackB isr l then (Pt.zero,19) else if l=ld then (⟨id,ld,ep,vr,isr,reps,add,rem,mn⟩,0) else (⟨rid,rld,rep,rvr,rl1,rl2,rl3,rl4,rmn⟩,re)):=by
  show _=_
  have h2:(!decide (l=0) && !upB l 7)=false:=by
   by_cases h0:l=0
   ·simp [h0]
   ·simp [upB];omega
  rw [HE.out,h2];simp
 clear HE
 go_wp2_with fail
 refine (G60.out _ HT1.out.b).mono ?_
 rintro e W2 ⟨v',rfl,h1,h2,hb⟩
 have h2':=h2.mono (Y:=fun b=>w.heap.size+2≤b) fun b hx=>Nat.le_trans HT1.out.s hx
 obtain ⟨x1,y1,x2,y2,x3,y3,x4,y4,rfl,q1,q2,q3,q4,ii⟩:=h1.open
 obtain ⟨n1,n2,n3,n4⟩:=h2' _ _ _ _ _ _ _ _ _ rfl
 simp only at q1 q2 q3 q4 n1 n2 n3 n4 ii
 have HT2:=hid (HT1.out.next hb)
 have LN:=hid (And.intro n1 (And.intro n2 (And.intro n3 n4)))
 have LB:Hid (IA w W2 (.slice x1 isr.length y1) isr∧IA w W2 (.slice x2 reps.length y2) reps∧IA w W2 (.slice x3 add.length y3) add∧IA w W2 (.slice x4 rem.length y4) rem):=⟨⟨q1,n1.mono fun b hx=>.inr hx⟩,⟨q2,n2.mono fun b hx=>.inr hx⟩,⟨q3,n3.mono fun b hx=>.inr hx⟩,⟨q4,n4.mono fun b hx=>.inr hx⟩⟩
 have HI:=hid ii
 clear q1 q2 q3 q4 n1 n2 n3 n4 ii h1 h2 h2' hb k0 k1 k2 k3 k4 k5 k6 k7 k8 z0 z1 z2 z3 z4 z5 z6 z7 z8 fx fz
 obtain ⟨k0,k1,k2,k3,k4,k5,k6,k7,k8⟩:=cells9 HT2.out.x
 obtain ⟨z0,z1,z2,z3,z4,z5,z6,z7,z8⟩:=cells9 HT2.out.z
 have fx:=frz_blk HT2.out.x
 have fz:=frz_blk HT2.out.z
 go_upto_region 5 with fail
 have HT3:=hid (nine_x HT2.out rfl (.int .i64 id) (.int .i64 ld) (.int .i64 ep) (.int .i64 vr) (.slice x1 isr.length y1) (.slice x2 reps.length y2) (.slice x3 add.length y3) (.slice x4 rem.length y4) (.int .i64 mn))
 have LA:=hid (And.intro (LB.out.1.nine (.int .i64 id) (.int .i64 ld) (.int .i64 ep) (.int .i64 vr) (.slice x1 isr.length y1) (.slice x2 reps.length y2) (.slice x3 add.length y3) (.slice x4 rem.length y4) (.int .i64 mn)) (And.intro (LB.out.2.1.nine (.int .i64 id) (.int .i64 ld) (.int .i64 ep) (.int .i64 vr) (.slice x1 isr.length y1) (.slice x2 reps.length y2) (.slice x3 add.length y3) (.slice x4 rem.length y4) (.int .i64 mn)) (And.intro (LB.out.2.2.1.nine (.int .i64 id) (.int .i64 ld) (.int .i64 ep) (.int .i64 vr) (.slice x1 isr.length y1) (.slice x2 reps.length y2) (.slice x3 add.length y3) (.slice x4 rem.length y4) (.int .i64 mn)) (LB.out.2.2.2.nine (.int .i64 id) (.int .i64 ld) (.int .i64 ep) (.int .i64 vr) (.slice x1 isr.length y1) (.slice x2 reps.length y2) (.slice x3 add.length y3) (.slice x4 rem.length y4) (.int .i64 mn)))))
 clear k0 k1 k2 k3 k4 k5 k6 k7 k8 z0 z1 z2 z3 z4 z5 z6 z7 z8 fx fz LB HT2 HT1
 generalize (((((((((W2.setCell ⟨w.heap.size,0,none⟩ (.int .i64 id)).setCell ⟨w.heap.size,1,none⟩ (.int .i64 ld)).setCell ⟨w.heap.size,2,none⟩ (.int .i64 ep)).setCell ⟨w.heap.size,3,none⟩ (.int .i64 vr)).setCell ⟨w.heap.size,4,none⟩ (.slice x1 isr.length y1)).setCell ⟨w.heap.size,5,none⟩ (.slice x2 reps.length y2)).setCell ⟨w.heap.size,6,none⟩ (.slice x3 add.length y3)).setCell ⟨w.heap.size,7,none⟩ (.slice x4 rem.length y4)).setCell ⟨w.heap.size,8,none⟩ (.int .i64 mn))=W3 at *
 obtain ⟨k0,k1,k2,k3,k4,k5,k6,k7,k8⟩:=cells9 HT3.out.x
 obtain ⟨z0,z1,z2,z3,z4,z5,z6,z7,z8⟩:=cells9 HT3.out.z
 have fx:=frz_blk HT3.out.x
 have fz:=frz_blk HT3.out.z
 have G42:=hid (rhas_any LA.out.1.1 l hl)
 have HLK:Hid (lackB isr l=!hasB isr l):=rfl
 rw [HLK.out] at HE2
 generalize hasB isr l=B2 at *
 go_wp2_with fail
 refine G42.out.mono ?_
 rintro e W4 ⟨rfl,rfl⟩
 by_cases h0:l=0
 ·have h0b:(l != 0)=false:=by simp [h0]
  have HE3:Hid (r=if l=ld then (⟨id,ld,ep,vr,isr,reps,add,rem,mn⟩,0) else (⟨rid,rld,rep,rvr,rl1,rl2,rl3,rl4,rmn⟩,re)):=by show _=_;rw [HE2.out];simp [h0]
  clear h0 HE2
  by_cases h1:ld=l
  ·have h1b:(ld == l)=true:=by simp [h1]
   have HR:Hid (r=(⟨id,ld,ep,vr,isr,reps,add,rem,mn⟩,0)):=by show _=_;rw [HE3.out,if_pos h1.symm]
   clear h1
   go_wp2_with fail
   exact leaf9 HT3.out rfl Tryz.results84 (n:=.int .i64 0) rfl rfl rfl fun W9 HT9 hsz9 HOFF=>(by rw [HR.out];exact ⟨_,rfl,⟨_,_,_,_,rfl,LA.out.1.offz HOFF.out hsz9,LA.out.2.1.offz HOFF.out hsz9,LA.out.2.2.1.offz HOFF.out hsz9,LA.out.2.2.2.offz HOFF.out hsz9,HI.out⟩,(inP_of (LN.out.1.mono fun b hb=>by omega) (LN.out.2.1.mono fun b hb=>by omega) (LN.out.2.2.1.mono fun b hb=>by omega) (LN.out.2.2.2.mono fun b hb=>by omega)),HT9.out.b⟩)
  ·have h1b:(ld == l)=false:=by simp [h1]
   have HR:Hid (r=(⟨rid,rld,rep,rvr,rl1,rl2,rl3,rl4,rmn⟩,re)):=by show _=_;rw [HE3.out,if_neg (fun e=>h1 e.symm)]
   have GL:=hid (rleads_any (X:=fun b=>w.heap.size+2≤b) (w:=W3) (v:=.agg (PL id ld ep vr x1 isr y1 x2 reps y2 x3 add y3 x4 rem y4 mn)) (p:=⟨id,ld,ep,vr,isr,reps,add,rem,mn⟩) ⟨_,_,_,_,rfl,LA.out.1.1,LA.out.2.1.1,LA.out.2.2.1.1,LA.out.2.2.2.1,HI.out⟩ (inP_of LN.out.1 LN.out.2.1 LN.out.2.2.1 LN.out.2.2.2) l hl hep)
   have HLV:Hid ((ledP ⟨id,ld,ep,vr,isr,reps,add,rem,mn⟩ l).ver=vr):=by show _=_;unfold ledP;split <;> rfl
   have HCV:=hid (led_ver ⟨id,ld,ep,vr,isr,reps,add,rem,mn⟩ l)
   rw [HC.out] at HCV
   generalize ledP ⟨id,ld,ep,vr,isr,reps,add,rem,mn⟩ l=lp at *
   go_wp2_with fail
   refine GL.out.mono ?_
   rintro e W4 ⟨v4,rfl,h1,h2,hb⟩
   have HT4:=hid (HT3.out.next hb)
   have GC:=hid (rchanged_any h1 h2 (by rw [HLV.out];exact hvr))
   rw [HCV.out] at GC
   clear h1 h2 hb k0 k1 k2 k3 k4 k5 k6 k7 k8 z0 z1 z2 z3 z4 z5 z6 z7 z8 fx fz GL
   obtain ⟨k0,k1,k2,k3,k4,k5,k6,k7,k8⟩:=cells9 HT4.out.x
   obtain ⟨z0,z1,z2,z3,z4,z5,z6,z7,z8⟩:=cells9 HT4.out.z
   have fx:=frz_blk HT4.out.x
   have fz:=frz_blk HT4.out.z
   go_wp2_with fail
   refine GC.out.mono ?_
   rintro e W5 ⟨v',rfl,h1,h2,hb⟩
   obtain ⟨t1,u1,t2,u2,t3,u3,t4,u4,rfl,q1,q2,q3,q4,ii⟩:=h1.open
   obtain ⟨n1,n2,n3,n4⟩:=h2 _ _ _ _ _ _ _ _ _ rfl
   simp only at q1 q2 q3 q4 n1 n2 n3 n4 ii
   have HT5:=hid (HT4.out.next hb)
   have HL:Hid (IA w W5 (.slice t1 rl1.length u1) rl1∧IA w W5 (.slice t2 rl2.length u2) rl2∧IA w W5 (.slice t3 rl3.length u3) rl3∧IA w W5 (.slice t4 rl4.length u4) rl4):=⟨⟨q1,n1.mono fun b hx=>.inr hx⟩,⟨q2,n2.mono fun b hx=>.inr hx⟩,⟨q3,n3.mono fun b hx=>.inr hx⟩,⟨q4,n4.mono fun b hx=>.inr hx⟩⟩
   have HN:Hid (InP (fun b=>w.heap.size≤b) (.agg (PL rid rld rep rvr t1 rl1 u1 t2 rl2 u2 t3 rl3 u3 t4 rl4 u4 rmn)) ⟨rid,rld,rep,rvr,rl1,rl2,rl3,rl4,rmn⟩):=h2.mono fun b hx=>by omega
   have HI2:=hid ii
   clear q1 q2 q3 q4 n1 n2 n3 n4 ii h1 h2 hb k0 k1 k2 k3 k4 k5 k6 k7 k8 z0 z1 z2 z3 z4 z5 z6 z7 z8 fx fz
   obtain ⟨k0,k1,k2,k3,k4,k5,k6,k7,k8⟩:=cells9 HT5.out.x
   obtain ⟨z0,z1,z2,z3,z4,z5,z6,z7,z8⟩:=cells9 HT5.out.z
   have fx:=frz_blk HT5.out.x
   have fz:=frz_blk HT5.out.z
   go_wp2_with fail
   exact leaf9 HT5.out rfl Tryz.results84 (n:=.int .i64 re) rfl rfl rfl fun W9 HT9 hsz9 HOFF=>(by rw [HR.out];exact ⟨_,rfl,⟨_,_,_,_,rfl,HL.out.1.offz HOFF.out hsz9,HL.out.2.1.offz HOFF.out hsz9,HL.out.2.2.1.offz HOFF.out hsz9,HL.out.2.2.2.offz HOFF.out hsz9,HI2.out⟩,HN.out,HT9.out.b⟩)
 have h0b:(l != 0)=true:=by simp [h0]
 cases B2
 ·have HR:Hid (r=(Pt.zero,19)):=by show _=_;rw [HE2.out];simp [h0]
  go_wp2_with fail
  exact leaf9 HT3.out rfl Tryz.results84 (n:=.int .i64 19) rfl rfl rfl fun W9 HT9 hsz9 HOFF=>(by rw [HR.out];exact res_err _ HT9.out.b)
 have HE3:Hid (r=if l=ld then (⟨id,ld,ep,vr,isr,reps,add,rem,mn⟩,0) else (⟨rid,rld,rep,rvr,rl1,rl2,rl3,rl4,rmn⟩,re)):=by show _=_;rw [HE2.out];simp
 by_cases h1:ld=l
 ·have h1b:(ld == l)=true:=by simp [h1]
  have HR:Hid (r=(⟨id,ld,ep,vr,isr,reps,add,rem,mn⟩,0)):=by show _=_;rw [HE3.out,if_pos h1.symm]
  clear h1
  go_wp2_with fail
  exact leaf9 HT3.out rfl Tryz.results84 (n:=.int .i64 0) rfl rfl rfl fun W9 HT9 hsz9 HOFF=>(by rw [HR.out];exact ⟨_,rfl,⟨_,_,_,_,rfl,LA.out.1.offz HOFF.out hsz9,LA.out.2.1.offz HOFF.out hsz9,LA.out.2.2.1.offz HOFF.out hsz9,LA.out.2.2.2.offz HOFF.out hsz9,HI.out⟩,(inP_of (LN.out.1.mono fun b hb=>by omega) (LN.out.2.1.mono fun b hb=>by omega) (LN.out.2.2.1.mono fun b hb=>by omega) (LN.out.2.2.2.mono fun b hb=>by omega)),HT9.out.b⟩)
 ·have h1b:(ld == l)=false:=by simp [h1]
  have HR:Hid (r=(⟨rid,rld,rep,rvr,rl1,rl2,rl3,rl4,rmn⟩,re)):=by show _=_;rw [HE3.out,if_neg (fun e=>h1 e.symm)]
  have GL:=hid (rleads_any (X:=fun b=>w.heap.size+2≤b) (w:=W3) (v:=.agg (PL id ld ep vr x1 isr y1 x2 reps y2 x3 add y3 x4 rem y4 mn)) (p:=⟨id,ld,ep,vr,isr,reps,add,rem,mn⟩) ⟨_,_,_,_,rfl,LA.out.1.1,LA.out.2.1.1,LA.out.2.2.1.1,LA.out.2.2.2.1,HI.out⟩ (inP_of LN.out.1 LN.out.2.1 LN.out.2.2.1 LN.out.2.2.2) l hl hep)
  have HLV:Hid ((ledP ⟨id,ld,ep,vr,isr,reps,add,rem,mn⟩ l).ver=vr):=by show _=_;unfold ledP;split <;> rfl
  have HCV:=hid (led_ver ⟨id,ld,ep,vr,isr,reps,add,rem,mn⟩ l)
  rw [HC.out] at HCV
  generalize ledP ⟨id,ld,ep,vr,isr,reps,add,rem,mn⟩ l=lp at *
  go_wp2_with fail
  refine GL.out.mono ?_
  rintro e W4 ⟨v4,rfl,h1,h2,hb⟩
  have HT4:=hid (HT3.out.next hb)
  have GC:=hid (rchanged_any h1 h2 (by rw [HLV.out];exact hvr))
  rw [HCV.out] at GC
  clear h1 h2 hb k0 k1 k2 k3 k4 k5 k6 k7 k8 z0 z1 z2 z3 z4 z5 z6 z7 z8 fx fz GL
  obtain ⟨k0,k1,k2,k3,k4,k5,k6,k7,k8⟩:=cells9 HT4.out.x
  obtain ⟨z0,z1,z2,z3,z4,z5,z6,z7,z8⟩:=cells9 HT4.out.z
  have fx:=frz_blk HT4.out.x
  have fz:=frz_blk HT4.out.z
  go_wp2_with fail
  refine GC.out.mono ?_
  rintro e W5 ⟨v',rfl,h1,h2,hb⟩
  obtain ⟨t1,u1,t2,u2,t3,u3,t4,u4,rfl,q1,q2,q3,q4,ii⟩:=h1.open
  obtain ⟨n1,n2,n3,n4⟩:=h2 _ _ _ _ _ _ _ _ _ rfl
  simp only at q1 q2 q3 q4 n1 n2 n3 n4 ii
  have HT5:=hid (HT4.out.next hb)
  have HL:Hid (IA w W5 (.slice t1 rl1.length u1) rl1∧IA w W5 (.slice t2 rl2.length u2) rl2∧IA w W5 (.slice t3 rl3.length u3) rl3∧IA w W5 (.slice t4 rl4.length u4) rl4):=⟨⟨q1,n1.mono fun b hx=>.inr hx⟩,⟨q2,n2.mono fun b hx=>.inr hx⟩,⟨q3,n3.mono fun b hx=>.inr hx⟩,⟨q4,n4.mono fun b hx=>.inr hx⟩⟩
  have HN:Hid (InP (fun b=>w.heap.size≤b) (.agg (PL rid rld rep rvr t1 rl1 u1 t2 rl2 u2 t3 rl3 u3 t4 rl4 u4 rmn)) ⟨rid,rld,rep,rvr,rl1,rl2,rl3,rl4,rmn⟩):=h2.mono fun b hx=>by omega
  have HI2:=hid ii
  clear q1 q2 q3 q4 n1 n2 n3 n4 ii h1 h2 hb k0 k1 k2 k3 k4 k5 k6 k7 k8 z0 z1 z2 z3 z4 z5 z6 z7 z8 fx fz
  obtain ⟨k0,k1,k2,k3,k4,k5,k6,k7,k8⟩:=cells9 HT5.out.x
  obtain ⟨z0,z1,z2,z3,z4,z5,z6,z7,z8⟩:=cells9 HT5.out.z
  have fx:=frz_blk HT5.out.x
  have fz:=frz_blk HT5.out.z
  go_wp2_with fail
  exact leaf9 HT5.out rfl Tryz.results84 (n:=.int .i64 re) rfl rfl rfl fun W9 HT9 hsz9 HOFF=>(by rw [HR.out];exact ⟨_,rfl,⟨_,_,_,_,rfl,HL.out.1.offz HOFF.out hsz9,HL.out.2.1.offz HOFF.out hsz9,HL.out.2.2.1.offz HOFF.out hsz9,HL.out.2.2.2.offz HOFF.out hsz9,HI2.out⟩,HN.out,HT9.out.b⟩)
theorem rback_any {w:World} {v:Value} {p:Pt} (h:PartM w v p) (l:Int) (hl:I64 l) :
  Calls Tryz.prog 77 #[v,.int .i64 l] w fun e w'=>Res (fun b=>w.heap.size≤b) w (backP p l) e w':=by
 obtain ⟨id,ld,ep,vr,isr,reps,add,rem,mn⟩:=p
 obtain ⟨a1,c1,a2,c2,a3,c3,a4,c4,rfl,q1,q2,q3,q4,i0,i1,i2,i3,i4⟩:=h.open
 simp only at q1 q2 q3 q4 i0 i1 i2 i3 i4 ⊢
 have Q1:=hid q1
 have Q2:=hid q2
 have Q3:=hid q3
 have Q4:=hid q4
 clear h q1 q2 q3 q4
 have HT0:=hid (two_new w (PL id ld ep vr a1 isr c1 a2 reps c2 a3 add c3 a4 rem c4 mn) PZ)
 have G13:Hid (∀ W,Below w.heap.size w W→Calls Tryz.prog 106 #[.agg (PL id ld ep vr a1 isr c1 a2 reps c2 a3 add c3 a4 rem c4 mn)] W fun e w'=>e=.returned (.bool (rightB ⟨id,ld,ep,vr,isr,reps,add,rem,mn⟩))∧Below W.heap.size W w'):=fun W hb=>rright_any ⟨_,_,_,_,rfl,Q1.out.under hb,Q2.out.under hb,Q3.out.under hb,Q4.out.under hb,i0,i1,i2,i3,i4⟩
 have G60:Hid (∀ W,Below w.heap.size w W→Calls Tryz.prog 125 #[.agg (PL id ld ep vr a1 isr c1 a2 reps c2 a3 add c3 a4 rem c4 mn)] W fun e w'=>∃ v',e=.returned v'∧PartM w' v' ⟨id,ld,ep,vr,isr,reps,add,rem,mn⟩∧InP (fun b=>W.heap.size≤b) v' ⟨id,ld,ep,vr,isr,reps,add,rem,mn⟩∧Below W.heap.size W w'):=fun W hb=>rclone_any ⟨_,_,_,_,rfl,Q1.out.under hb,Q2.out.under hb,Q3.out.under hb,Q4.out.under hb,i0,i1,i2,i3,i4⟩
 have HE:Hid (backP ⟨id,ld,ep,vr,isr,reps,add,rem,mn⟩ l=if !rightB ⟨id,ld,ep,vr,isr,reps,add,rem,mn⟩ || !upB l 7 then (Pt.zero,1) else if ld≠0∨lackB isr l=true then (⟨id,ld,ep,vr,isr,reps,add,rem,mn⟩,0) else changedP ⟨id,ld,ep,vr,isr,reps,add,rem,mn⟩ l):=rfl
 have HBD:Hid (rightB ⟨id,ld,ep,vr,isr,reps,add,rem,mn⟩=true→(1≤ep∧ep≤1000000000)∧(1≤vr∧vr≤1000000000)):=fun e=>⟨(rightB_iff.1 e).epoch,(rightB_iff.1 e).ver⟩
 generalize backP ⟨id,ld,ep,vr,isr,reps,add,rem,mn⟩ l=r at *
 generalize hc:changedP ⟨id,ld,ep,vr,isr,reps,add,rem,mn⟩ l=r2 at *
 obtain ⟨⟨rid,rld,rep,rvr,rl1,rl2,rl3,rl4,rmn⟩,re⟩:=r2
 have HC:=hid hc
 generalize rightB ⟨id,ld,ep,vr,isr,reps,add,rem,mn⟩=B1 at *
 clear hc i0 i1 i2 i3 i4 Q1 Q2 Q3 Q4
 go_enter Tryz.func77,Tryz.ntmps77
 go_wp2_with fail
 generalize (w.alloc (.cells (PL id ld ep vr a1 isr c1 a2 reps c2 a3 add c3 a4 rem c4 mn) 54)).alloc (.cells PZ 54)=W0 at *
 refine (G13.out _ HT0.out.b).mono ?_
 rintro e W1 ⟨rfl,hb⟩
 have HT1:=hid (HT0.out.next hb)
 clear hb
 obtain ⟨k0,k1,k2,k3,k4,k5,k6,k7,k8⟩:=cells9 HT1.out.x
 obtain ⟨z0,z1,z2,z3,z4,z5,z6,z7,z8⟩:=cells9 HT1.out.z
 have fx:=frz_blk HT1.out.x
 have fz:=frz_blk HT1.out.z
 cases B1
 ·have HR:Hid (r=(Pt.zero,1)):=by show _=_;rw [HE.out];simp
  go_wp2_with fail
  exact leaf9 HT1.out rfl Tryz.results77 (n:=.int .i64 1) rfl rfl rfl fun W9 HT9 hsz9 HOFF=>(by rw [HR.out];exact res_err _ HT9.out.b)
 obtain ⟨hep,hvr⟩:=HBD.out rfl
 by_cases hn:l<1
 ·have HR:Hid (r=(Pt.zero,1)):=by
   show _=_
   have h2:upB l 7=false:=by simp [upB];omega
   rw [HE.out];simp [h2]
  go_wp2_with fail
  exact leaf9 HT1.out rfl Tryz.results77 (n:=.int .i64 1) rfl rfl rfl fun W9 HT9 hsz9 HOFF=>(by rw [HR.out];exact res_err _ HT9.out.b)
 by_cases h7:7<l
 ·have HR:Hid (r=(Pt.zero,1)):=by
   show _=_
   have h2:upB l 7=false:=by simp [upB];omega
   rw [HE.out];simp [h2]
  go_wp2_with fail
  exact leaf9 HT1.out rfl Tryz.results77 (n:=.int .i64 1) rfl rfl rfl fun W9 HT9 hsz9 HOFF=>(by rw [HR.out];exact res_err _ HT9.out.b)
 have HE2:Hid (r=if ld≠0∨lackB isr l=true then (⟨id,ld,ep,vr,isr,reps,add,rem,mn⟩,0) else (⟨rid,rld,rep,rvr,rl1,rl2,rl3,rl4,rmn⟩,re)):=by
  show _=_
  have h2:upB l 7=true:=upB_iff.2 (by omega)
  rw [HE.out,h2];simp
 clear HE
 go_wp2_with fail
 refine (G60.out _ HT1.out.b).mono ?_
 rintro e W2 ⟨v',rfl,h1,h2,hb⟩
 have h2':=h2.mono (Y:=fun b=>w.heap.size+2≤b) fun b hx=>Nat.le_trans HT1.out.s hx
 obtain ⟨x1,y1,x2,y2,x3,y3,x4,y4,rfl,q1,q2,q3,q4,ii⟩:=h1.open
 obtain ⟨n1,n2,n3,n4⟩:=h2' _ _ _ _ _ _ _ _ _ rfl
 simp only at q1 q2 q3 q4 n1 n2 n3 n4 ii
 have HT2:=hid (HT1.out.next hb)
 have LN:=hid (And.intro n1 (And.intro n2 (And.intro n3 n4)))
 have LB:Hid (IA w W2 (.slice x1 isr.length y1) isr∧IA w W2 (.slice x2 reps.length y2) reps∧IA w W2 (.slice x3 add.length y3) add∧IA w W2 (.slice x4 rem.length y4) rem):=⟨⟨q1,n1.mono fun b hx=>.inr hx⟩,⟨q2,n2.mono fun b hx=>.inr hx⟩,⟨q3,n3.mono fun b hx=>.inr hx⟩,⟨q4,n4.mono fun b hx=>.inr hx⟩⟩
 have HI:=hid ii
 clear q1 q2 q3 q4 n1 n2 n3 n4 ii h1 h2 h2' hb k0 k1 k2 k3 k4 k5 k6 k7 k8 z0 z1 z2 z3 z4 z5 z6 z7 z8 fx fz
 obtain ⟨k0,k1,k2,k3,k4,k5,k6,k7,k8⟩:=cells9 HT2.out.x
 obtain ⟨z0,z1,z2,z3,z4,z5,z6,z7,z8⟩:=cells9 HT2.out.z
 have fx:=frz_blk HT2.out.x
 have fz:=frz_blk HT2.out.z
 go_upto_region 5 with fail
 have HT3:=hid (nine_x HT2.out rfl (.int .i64 id) (.int .i64 ld) (.int .i64 ep) (.int .i64 vr) (.slice x1 isr.length y1) (.slice x2 reps.length y2) (.slice x3 add.length y3) (.slice x4 rem.length y4) (.int .i64 mn))
 have LA:=hid (And.intro (LB.out.1.nine (.int .i64 id) (.int .i64 ld) (.int .i64 ep) (.int .i64 vr) (.slice x1 isr.length y1) (.slice x2 reps.length y2) (.slice x3 add.length y3) (.slice x4 rem.length y4) (.int .i64 mn)) (And.intro (LB.out.2.1.nine (.int .i64 id) (.int .i64 ld) (.int .i64 ep) (.int .i64 vr) (.slice x1 isr.length y1) (.slice x2 reps.length y2) (.slice x3 add.length y3) (.slice x4 rem.length y4) (.int .i64 mn)) (And.intro (LB.out.2.2.1.nine (.int .i64 id) (.int .i64 ld) (.int .i64 ep) (.int .i64 vr) (.slice x1 isr.length y1) (.slice x2 reps.length y2) (.slice x3 add.length y3) (.slice x4 rem.length y4) (.int .i64 mn)) (LB.out.2.2.2.nine (.int .i64 id) (.int .i64 ld) (.int .i64 ep) (.int .i64 vr) (.slice x1 isr.length y1) (.slice x2 reps.length y2) (.slice x3 add.length y3) (.slice x4 rem.length y4) (.int .i64 mn)))))
 clear k0 k1 k2 k3 k4 k5 k6 k7 k8 z0 z1 z2 z3 z4 z5 z6 z7 z8 fx fz LB HT2 HT1
 generalize (((((((((W2.setCell ⟨w.heap.size,0,none⟩ (.int .i64 id)).setCell ⟨w.heap.size,1,none⟩ (.int .i64 ld)).setCell ⟨w.heap.size,2,none⟩ (.int .i64 ep)).setCell ⟨w.heap.size,3,none⟩ (.int .i64 vr)).setCell ⟨w.heap.size,4,none⟩ (.slice x1 isr.length y1)).setCell ⟨w.heap.size,5,none⟩ (.slice x2 reps.length y2)).setCell ⟨w.heap.size,6,none⟩ (.slice x3 add.length y3)).setCell ⟨w.heap.size,7,none⟩ (.slice x4 rem.length y4)).setCell ⟨w.heap.size,8,none⟩ (.int .i64 mn))=W3 at *
 obtain ⟨k0,k1,k2,k3,k4,k5,k6,k7,k8⟩:=cells9 HT3.out.x
 obtain ⟨z0,z1,z2,z3,z4,z5,z6,z7,z8⟩:=cells9 HT3.out.z
 have fx:=frz_blk HT3.out.x
 have fz:=frz_blk HT3.out.z
 have G42:=hid (rhas_any LA.out.1.1 l hl)
 have HLK:Hid (lackB isr l=!hasB isr l):=rfl
 rw [HLK.out] at HE2
 generalize hasB isr l=B2 at *
 go_wp2_with fail
 refine G42.out.mono ?_
 rintro e W4 ⟨rfl,rfl⟩
 by_cases h0:ld=0
 ·have h0b:(ld != 0)=false:=by simp [h0]
  cases B2
  ·have HR:Hid (r=(⟨id,ld,ep,vr,isr,reps,add,rem,mn⟩,0)):=by show _=_;rw [HE2.out];simp
   clear h0
   go_wp2_with fail
   exact leaf9 HT3.out rfl Tryz.results77 (n:=.int .i64 0) rfl rfl rfl fun W9 HT9 hsz9 HOFF=>(by rw [HR.out];exact ⟨_,rfl,⟨_,_,_,_,rfl,LA.out.1.offz HOFF.out hsz9,LA.out.2.1.offz HOFF.out hsz9,LA.out.2.2.1.offz HOFF.out hsz9,LA.out.2.2.2.offz HOFF.out hsz9,HI.out⟩,(inP_of (LN.out.1.mono fun b hb=>by omega) (LN.out.2.1.mono fun b hb=>by omega) (LN.out.2.2.1.mono fun b hb=>by omega) (LN.out.2.2.2.mono fun b hb=>by omega)),HT9.out.b⟩)
  ·have HR:Hid (r=(⟨rid,rld,rep,rvr,rl1,rl2,rl3,rl4,rmn⟩,re)):=by show _=_;rw [HE2.out];simp [h0]
   clear h0
   have GL:=hid (rleads_any (X:=fun b=>w.heap.size+2≤b) (w:=W3) (v:=.agg (PL id ld ep vr x1 isr y1 x2 reps y2 x3 add y3 x4 rem y4 mn)) (p:=⟨id,ld,ep,vr,isr,reps,add,rem,mn⟩) ⟨_,_,_,_,rfl,LA.out.1.1,LA.out.2.1.1,LA.out.2.2.1.1,LA.out.2.2.2.1,HI.out⟩ (inP_of LN.out.1 LN.out.2.1 LN.out.2.2.1 LN.out.2.2.2) l hl hep)
   have HLV:Hid ((ledP ⟨id,ld,ep,vr,isr,reps,add,rem,mn⟩ l).ver=vr):=by show _=_;unfold ledP;split <;> rfl
   have HCV:=hid (led_ver ⟨id,ld,ep,vr,isr,reps,add,rem,mn⟩ l)
   rw [HC.out] at HCV
   generalize ledP ⟨id,ld,ep,vr,isr,reps,add,rem,mn⟩ l=lp at *
   go_wp2_with fail
   refine GL.out.mono ?_
   rintro e W4 ⟨v4,rfl,h1,h2,hb⟩
   have HT4:=hid (HT3.out.next hb)
   have GC:=hid (rchanged_any h1 h2 (by rw [HLV.out];exact hvr))
   rw [HCV.out] at GC
   clear h1 h2 hb k0 k1 k2 k3 k4 k5 k6 k7 k8 z0 z1 z2 z3 z4 z5 z6 z7 z8 fx fz GL
   obtain ⟨k0,k1,k2,k3,k4,k5,k6,k7,k8⟩:=cells9 HT4.out.x
   obtain ⟨z0,z1,z2,z3,z4,z5,z6,z7,z8⟩:=cells9 HT4.out.z
   have fx:=frz_blk HT4.out.x
   have fz:=frz_blk HT4.out.z
   go_wp2_with fail
   refine GC.out.mono ?_
   rintro e W5 ⟨v',rfl,h1,h2,hb⟩
   obtain ⟨t1,u1,t2,u2,t3,u3,t4,u4,rfl,q1,q2,q3,q4,ii⟩:=h1.open
   obtain ⟨n1,n2,n3,n4⟩:=h2 _ _ _ _ _ _ _ _ _ rfl
   simp only at q1 q2 q3 q4 n1 n2 n3 n4 ii
   have HT5:=hid (HT4.out.next hb)
   have HL:Hid (IA w W5 (.slice t1 rl1.length u1) rl1∧IA w W5 (.slice t2 rl2.length u2) rl2∧IA w W5 (.slice t3 rl3.length u3) rl3∧IA w W5 (.slice t4 rl4.length u4) rl4):=⟨⟨q1,n1.mono fun b hx=>.inr hx⟩,⟨q2,n2.mono fun b hx=>.inr hx⟩,⟨q3,n3.mono fun b hx=>.inr hx⟩,⟨q4,n4.mono fun b hx=>.inr hx⟩⟩
   have HN:Hid (InP (fun b=>w.heap.size≤b) (.agg (PL rid rld rep rvr t1 rl1 u1 t2 rl2 u2 t3 rl3 u3 t4 rl4 u4 rmn)) ⟨rid,rld,rep,rvr,rl1,rl2,rl3,rl4,rmn⟩):=h2.mono fun b hx=>by omega
   have HI2:=hid ii
   clear q1 q2 q3 q4 n1 n2 n3 n4 ii h1 h2 hb k0 k1 k2 k3 k4 k5 k6 k7 k8 z0 z1 z2 z3 z4 z5 z6 z7 z8 fx fz
   obtain ⟨k0,k1,k2,k3,k4,k5,k6,k7,k8⟩:=cells9 HT5.out.x
   obtain ⟨z0,z1,z2,z3,z4,z5,z6,z7,z8⟩:=cells9 HT5.out.z
   have fx:=frz_blk HT5.out.x
   have fz:=frz_blk HT5.out.z
   go_wp2_with fail
   exact leaf9 HT5.out rfl Tryz.results77 (n:=.int .i64 re) rfl rfl rfl fun W9 HT9 hsz9 HOFF=>(by rw [HR.out];exact ⟨_,rfl,⟨_,_,_,_,rfl,HL.out.1.offz HOFF.out hsz9,HL.out.2.1.offz HOFF.out hsz9,HL.out.2.2.1.offz HOFF.out hsz9,HL.out.2.2.2.offz HOFF.out hsz9,HI2.out⟩,HN.out,HT9.out.b⟩)
 ·have h0b:(ld != 0)=true:=by simp [h0]
  have HR:Hid (r=(⟨id,ld,ep,vr,isr,reps,add,rem,mn⟩,0)):=by show _=_;rw [HE2.out];simp [h0]
  go_wp2_with fail
  exact leaf9 HT3.out rfl Tryz.results77 (n:=.int .i64 0) rfl rfl rfl fun W9 HT9 hsz9 HOFF=>(by rw [HR.out];exact ⟨_,rfl,⟨_,_,_,_,rfl,LA.out.1.offz HOFF.out hsz9,LA.out.2.1.offz HOFF.out hsz9,LA.out.2.2.1.offz HOFF.out hsz9,LA.out.2.2.2.offz HOFF.out hsz9,HI.out⟩,(inP_of (LN.out.1.mono fun b hb=>by omega) (LN.out.2.1.mono fun b hb=>by omega) (LN.out.2.2.1.mono fun b hb=>by omega) (LN.out.2.2.2.mono fun b hb=>by omega)),HT9.out.b⟩)
end Go.Proofs.YtcffomhcmilcpaaGreat
