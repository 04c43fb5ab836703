/- Who leads when a leader gives way. -/
import Derived.Test.YtcffomhcmilcpaaGreatC1
import Derived.Test.YtcffomhcmilcpaaGreatC2
import Derived.Test.YtcffomhcmilcpaaGreatC0
import Derived.Lib.AppendZeros
set_option maxRecDepth 100000
set_option maxHeartbeats 20000000
set_option linter.unusedVariables false
set_option linter.unusedSimpArgs false
namespace Go.Proofs.YtcffomhcmilcpaaGreat
open Go.RowKit Go.Maps
theorem il_one {w:World} (x:Int) (hx:I64 x) (W:World) (hb:Below w.heap.size w W) (g:Nat) (hg:W.heap[g]?=some (.cells #[.int .i64 x] 3)):IL W (.slice (some ⟨g,0,none⟩) 1 1) [x]:=by
 refine ⟨⟨some ⟨g,0,none⟩,1,rfl,by simp,by unfold maxLen;omega,(fun h=>by cases h),fun _=>⟨g,0,rfl,?_,fun i hi=>?_⟩⟩,fun y hy=>by simp at hy;subst hy;exact hx,by simp⟩
 ·rcases Nat.lt_or_ge g W.heap.size with h1 | h1
  ·exact h1
  ·rw [Array.getElem?_eq_none h1] at hg;cases hg
 ·have:i=0:=by simpa using hi
  subst this
  exact cell_blk hg 0 _ rfl
theorem heir_any {w:World} {v u:Value} {p:Pt} {up:List Int} (h:PartM w v p) (hu:IL w u up):Calls Tryz.prog 182 #[v,u] w fun e w'=>e=.returned (.int .i64 (heirP p up))∧I64 (heirP p up)∧Below w.heap.size w w':=by
 obtain ⟨id,ld,ep,vr,isr,reps,add,rem,mn⟩:=p
 obtain ⟨a1,c1,a2,c2,a3,c3,a4,c4,rfl,q1,q2,q3,q4,i0,i1,i2,i3,i4⟩:=h.open
 simp only at q1 q2 q3 q4 i0 i1 i2 i3 i4 ⊢
 have Q1:=hid q1
 have Q2:=hid q2
 have Q3:=hid q3
 have Q4:=hid q4
 clear h q1 q2 q3 q4
 have HX:Hid ((w.alloc (.cells (PL id ld ep vr a1 isr c1 a2 reps c2 a3 add c3 a4 rem c4 mn) 54)).heap[w.heap.size]?=some (.cells (PL id ld ep vr a1 isr c1 a2 reps c2 a3 add c3 a4 rem c4 mn) 54)):=heap_alloc_new w _
 have HB:Hid (Below w.heap.size w (w.alloc (.cells (PL id ld ep vr a1 isr c1 a2 reps c2 a3 add c3 a4 rem c4 mn) 54))):=(Below.refl _ _).alloc (Nat.le_refl _) _
 have hsz:(w.alloc (.cells (PL id ld ep vr a1 isr c1 a2 reps c2 a3 add c3 a4 rem c4 mn) 54)).heap.size=w.heap.size+1:=by simp
 obtain ⟨ua,uc,rfl,_⟩:=hu.shape
 have QU:=hid hu
 have HN:Hid (heirP ⟨id,ld,ep,vr,isr,reps,add,rem,mn⟩ up=headL (outL (inL (inL reps isr) up) [ld])):=rfl
 rw [HN.out]
 have G1:Hid (∀ W,Below w.heap.size w W→Calls Tryz.prog 181 #[.slice a2 reps.length c2,.func (.func 138) #[] #[],.slice a1 isr.length c1] W fun e w'=>∃ v',e=.returned v'∧IL w' v' (inL reps isr)∧Below W.heap.size W w'):=fun W hb=>(those39_any (Q2.out.under hb) (Q1.out.under hb)).mono fun e w' ⟨v',e1,e2,e3,e4⟩=>⟨v',e1,e2,e4⟩
 have G2:Hid (∀ W v1,Below w.heap.size w W→IL W v1 (inL reps isr)→Calls Tryz.prog 181 #[v1,.func (.func 138) #[] #[],.slice ua up.length uc] W fun e w'=>∃ v',e=.returned v'∧IL w' v' (inL (inL reps isr) up)∧Below W.heap.size W w'):=fun W v1 hb h1=>(those39_any h1 (QU.out.under hb)).mono fun e w' ⟨v',e1,e2,e3,e4⟩=>⟨v',e1,e2,e4⟩
 have G3:Hid (∀ W v1 v2,IL W v1 (inL (inL reps isr) up)→IL W v2 [ld]→Calls Tryz.prog 181 #[v1,.func (.func 158) #[] #[],v2] W fun e w'=>∃ v',e=.returned v'∧IL w' v' (outL (inL (inL reps isr) up) [ld])∧Below W.heap.size W w'):=fun W v1 v2 h1 h2=>(those50_any h1 h2).mono fun e w' ⟨v',e1,e2,e3,e4⟩=>⟨v',e1,e2,e4⟩
 generalize inL reps isr=L1 at *
 generalize inL L1 up=L2 at *
 generalize outL L2 [ld]=L3 at *
 clear HN hu i0 i2 i3 i4 Q1 Q2 Q3 Q4
 go_enter Tryz.func182,Tryz.ntmps182
 go_wp2_with fail
 generalize w.alloc (.cells (PL id ld ep vr a1 isr c1 a2 reps c2 a3 add c3 a4 rem c4 mn) 54)=W0 at *
 refine (G1.out W0 HB.out).mono ?_
 rintro e W1 ⟨v1,rfl,hv1,hb⟩
 obtain ⟨x1,y1,rfl,_⟩:=hv1.shape
 have HB1:=hid (HB.out.trans (hb.mono HB.out.size))
 have HX1:=hid ((hb.block w.heap.size (by omega)).trans HX.out)
 have hs1:w.heap.size+1≤W1.heap.size:=by have:=hb.size;omega
 have HV1:=hid hv1
 clear hv1 hb
 go_wp2_with fail
 refine (G2.out W1 _ HB1.out HV1.out).mono ?_
 rintro e W2 ⟨v2,rfl,hv2,hb⟩
 obtain ⟨x2,y2,rfl,_⟩:=hv2.shape
 have HB2:=hid (HB1.out.trans (hb.mono HB1.out.size))
 have k1:=cell_blk ((hb.block w.heap.size (by omega)).trans HX1.out) 1 _ rfl
 have HV2:=hid hv2
 clear hv2 hb
 go_wp2_with fail
 have HBA:Hid (Below W2.heap.size W2 (W2.alloc (.cells #[.int .i64 ld] 3))):=(Below.refl _ _).alloc (Nat.le_refl _) _
 refine (G3.out _ _ _ (HV2.out.under HBA.out) (il_one ld i1 _ HBA.out _ (heap_alloc_new _ _))).mono ?_
 rintro e W3 ⟨v3,rfl,hv3,hb⟩
 have HB3:=hid (HB2.out.trans ((HBA.out.trans (hb.mono HBA.out.size)).mono HB2.out.size))
 have HOK:=hid hv3.ok
 obtain ⟨x3,y3,rfl,_,_,_,h4⟩:=hv3.shape
 clear hv3 hb
 cases L3 with
 | nil =>
  clear h4
  go_wp2_with fail
  go_ret
  exact ⟨rfl,i64z,HB3.out⟩
 | cons z r =>
  obtain ⟨b,off,rfl,_,hc⟩:=h4 (by simp)
  have hc0:=hc 0 (by simp)
  simp only [List.getElem_cons_zero,Nat.add_zero] at hc0
  have hz:I64 z:=HOK.out z (by simp)
  have hlen:¬ (((z :: r).length:Int)=0):=by rw [List.length_cons];omega
  have hlen1:(0:Int)<((z :: r).length:Int):=by rw [List.length_cons];omega
  clear hc h4 HOK
  generalize (z :: r).length=n at *
  go_wp2_with fail
  go_ret
  exact ⟨rfl,hz,HB3.out⟩
theorem il_z (w:World):IL w (.slice none 0 0) []:=IL.nil w
theorem settled_any {w:World} {v g u:Value} {p:Pt} {gl up:List Int} (h:PartM w v p) (hg:IL w g gl) (hu:IL w u up) (he:1≤p.epoch∧p.epoch≤1000000000) (hv:1≤p.ver∧p.ver≤1000000000) :
  Calls Tryz.prog 205 #[v,g,u] w fun e w'=>Res (fun b=>w.heap.size≤b) w (settledP p gl up) e w':=by
 obtain ⟨id,ld,ep,vr,isr,reps,add,rem,mn⟩:=p
 obtain ⟨a1,c1,a2,c2,a3,c3,a4,c4,rfl,q1,q2,q3,q4,i0,i1,i2,i3,i4⟩:=h.open
 simp only at q1 q2 q3 q4 i0 i1 i2 i3 i4 ⊢
 have Q1:=hid q1
 have Q2:=hid q2
 have Q3:=hid q3
 have Q4:=hid q4
 clear h q1 q2 q3 q4
 simp only at he hv
 obtain ⟨ga,gc,rfl,_⟩:=hg.shape
 obtain ⟨ua,uc,rfl,_⟩:=hu.shape
 have QG:=hid hg
 have QU:=hid hu
 have HT0:=hid (two_new w (PL id ld ep vr a1 isr c1 a2 reps c2 a3 add c3 a4 rem c4 mn) PZ)
 have G2:Hid (∀ W,Below w.heap.size w W→Calls Tryz.prog 181 #[.slice a2 reps.length c2,.func (.func 158) #[] #[],.slice ga gl.length gc] W fun e w'=>∃ v',e=.returned v'∧IL w' v' (outL reps gl)∧In (fun b=>W.heap.size≤b) v' (outL reps gl)∧Below W.heap.size W w'):=fun W hb=>those50_any (Q2.out.under hb) (QG.out.under hb)
 have G1:Hid (∀ W,Below w.heap.size w W→Calls Tryz.prog 181 #[.slice a1 isr.length c1,.func (.func 158) #[] #[],.slice ga gl.length gc] W fun e w'=>∃ v',e=.returned v'∧IL w' v' (outL isr gl)∧In (fun b=>W.heap.size≤b) v' (outL isr gl)∧Below W.heap.size W w'):=fun W hb=>those50_any (Q1.out.under hb) (QG.out.under hb)
 have G3:Hid (∀ W,Below w.heap.size w W→Calls Tryz.prog 138 #[.slice ga gl.length gc,.int .i64 ld] W fun e w'=>e=.returned (.bool (hasB gl ld))∧W=w'):=fun W hb=>has_any (QG.out.under hb) ld i1
 have HS:Hid (settledP ⟨id,ld,ep,vr,isr,reps,add,rem,mn⟩ gl up=changedP ⟨id,ld,ep,vr,outL isr gl,outL reps gl,[],[],mn⟩ (if hasB gl ld then heirP ⟨id,ld,ep,vr,outL isr gl,outL reps gl,[],[],mn⟩ up else ld)):=rfl
 rw [HS.out]
 have HI:Hid (I64 id∧I64 ld∧I64 ep∧I64 vr∧I64 mn):=⟨i0,i1,i2,i3,i4⟩
 generalize outL isr gl=S at *
 generalize outL reps gl=R at *
 have HP:Hid (∀ W x1 y1 x2 y2,IL W (.slice x1 S.length y1) S→IL W (.slice x2 R.length y2) R→PartM W (.agg #[.int .i64 id,.int .i64 ld,.int .i64 ep,.int .i64 vr,.slice x1 S.length y1,.slice x2 R.length y2,.slice none 0 0,.slice none 0 0,.int .i64 mn]) ⟨id,ld,ep,vr,S,R,[],[],mn⟩):=fun W x1 y1 x2 y2 h1 h2=>⟨_,_,_,_,rfl,h1,h2,il_z W,il_z W,HI.out⟩
 have G4:Hid (∀ W x1 y1 x2 y2,Below w.heap.size w W→IL W (.slice x1 S.length y1) S→IL W (.slice x2 R.length y2) R→Calls Tryz.prog 182 #[.agg #[.int .i64 id,.int .i64 ld,.int .i64 ep,.int .i64 vr,.slice x1 S.length y1,.slice x2 R.length y2,.slice none 0 0,.slice none 0 0,.int .i64 mn],.slice ua up.length uc] W fun e w'=>e=.returned (.int .i64 (heirP ⟨id,ld,ep,vr,S,R,[],[],mn⟩ up))∧I64 (heirP ⟨id,ld,ep,vr,S,R,[],[],mn⟩ up)∧Below W.heap.size W w'):=fun W x1 y1 x2 y2 hb h1 h2=>heir_any (HP.out W x1 y1 x2 y2 h1 h2) (QU.out.under hb)
 have G5:Hid (∀ W x1 y1 x2 y2 l,I64 l→IL W (.slice x1 S.length y1) S→IL W (.slice x2 R.length y2) R→In (fun b=>w.heap.size+2≤b) (.slice x1 S.length y1) S→In (fun b=>w.heap.size+2≤b) (.slice x2 R.length y2) R→Calls Tryz.prog 159 #[.agg #[.int .i64 id,.int .i64 ld,.int .i64 ep,.int .i64 vr,.slice x1 S.length y1,.slice x2 R.length y2,.slice none 0 0,.slice none 0 0,.int .i64 mn],.int .i64 l] W fun e w'=>Res (fun b=>w.heap.size+2≤b) W (changedP ⟨id,ld,ep,vr,S,R,[],[],mn⟩ l) e w'):=fun W x1 y1 x2 y2 l hl h1 h2 h3 h4=>changed_any (HP.out W x1 y1 x2 y2 h1 h2) (inP_of h3 h4 (In.nil _ _) (In.nil _ _)) l hl he hv
 generalize hasB gl ld=B at *
 generalize heirP ⟨id,ld,ep,vr,S,R,[],[],mn⟩ up=H at *
 generalize hr:changedP ⟨id,ld,ep,vr,S,R,[],[],mn⟩ (if B then H else ld)=r
 have HR0:Hid (B=false→changedP ⟨id,ld,ep,vr,S,R,[],[],mn⟩ ld=r):=fun e=>by rw [← hr,e];rfl
 have HR1':Hid (B=true→changedP ⟨id,ld,ep,vr,S,R,[],[],mn⟩ H=r):=fun e=>by rw [← hr,e];rfl
 obtain ⟨⟨rid,rld,rep,rvr,rl1,rl2,rl3,rl4,rmn⟩,re⟩:=r
 clear hr HP HS i0 i2 i3 i4 Q1 Q2 Q3 Q4 he hv hg hu QG QU
 go_enter Tryz.func205,Tryz.ntmps205
 go_wp2_with fail
 generalize (w.alloc (.cells (PL id ld ep vr a1 isr c1 a2 reps c2 a3 add c3 a4 rem c4 mn) 54)).alloc (.cells PZ 54)=W0 at *
 refine (G2.out _ HT0.out.b).mono ?_
 rintro e W1 ⟨v',rfl,h1,h2,hb⟩
 obtain ⟨g2,d2,rfl,_⟩:=h1.shape
 have HT1:=hid (HT0.out.next hb)
 have HR1:=hid (ia_new (w:=w) h1 h2 HT0.out.s)
 have HRn:Hid (In (fun b=>w.heap.size+2≤b) (.slice g2 R.length d2) R):=h2.mono fun b hx=>Nat.le_trans HT0.out.s hx
 clear h1 h2 hb
 obtain ⟨k0,k1,k2,k3,k4,k5,k6,k7,k8⟩:=cells9 HT1.out.x
 have fx:=frz_blk HT1.out.x
 go_wp2_with fail
 have HT2:Hid (TwoB w (W1.setCell ⟨w.heap.size,5,none⟩ (.slice g2 R.length d2)) (PL id ld ep vr a1 isr c1 g2 R d2 a3 add c3 a4 rem c4 mn) PZ):=HT1.out.setx 5 _
 have HR2:=hid (HR1.out.set (.inl rfl) 5 (.slice g2 R.length d2))
 clear k0 k1 k2 k3 k4 k5 k6 k7 k8 fx HT1 HR1
 generalize W1.setCell ⟨w.heap.size,5,none⟩ (.slice g2 R.length d2)=W2 at *
 refine (G1.out _ HT2.out.b).mono ?_
 rintro e W3 ⟨v',rfl,h1,h2,hb⟩
 obtain ⟨g1,d1,rfl,_⟩:=h1.shape
 have HT3:=hid (HT2.out.next hb)
 have HR3:=hid (HR2.out.under hb)
 have HS3:=hid (ia_new (w:=w) h1 h2 HT2.out.s)
 have HSn:Hid (In (fun b=>w.heap.size+2≤b) (.slice g1 S.length d1) S):=h2.mono fun b hx=>Nat.le_trans HT2.out.s hx
 clear h1 h2 hb HT2 HR2
 obtain ⟨k0,k1,k2,k3,k4,k5,k6,k7,k8⟩:=cells9 HT3.out.x
 have fx:=frz_blk HT3.out.x
 go_wp2_with fail
 have HT4:Hid (TwoB w (((W3.setCell ⟨w.heap.size,4,none⟩ (.slice g1 S.length d1)).setCell ⟨w.heap.size,6,none⟩ (.slice none 0 0)).setCell ⟨w.heap.size,7,none⟩ (.slice none 0 0)) #[.int .i64 id,.int .i64 ld,.int .i64 ep,.int .i64 vr,.slice g1 S.length d1,.slice g2 R.length d2,.slice none 0 0,.slice none 0 0,.int .i64 mn] PZ):=((HT3.out.setx 4 (.slice g1 S.length d1)).setx 6 (.slice none 0 0)).setx 7 (.slice none 0 0)
 have HR4:=hid (((HR3.out.set (.inl rfl) 4 (.slice g1 S.length d1)).set (.inl rfl) 6 (.slice none 0 0)).set (.inl rfl) 7 (.slice none 0 0))
 have HS4:=hid (((HS3.out.set (.inl rfl) 4 (.slice g1 S.length d1)).set (.inl rfl) 6 (.slice none 0 0)).set (.inl rfl) 7 (.slice none 0 0))
 clear k0 k1 k2 k3 k4 k5 k6 k7 k8 fx HT3 HR3 HS3
 generalize ((W3.setCell ⟨w.heap.size,4,none⟩ (.slice g1 S.length d1)).setCell ⟨w.heap.size,6,none⟩ (.slice none 0 0)).setCell ⟨w.heap.size,7,none⟩ (.slice none 0 0)=W4 at *
 refine (G3.out _ HT4.out.b).mono ?_
 rintro e W5 ⟨rfl,rfl⟩
 obtain ⟨k0,k1,k2,k3,k4,k5,k6,k7,k8⟩:=cells9 HT4.out.x
 obtain ⟨z0,z1,z2,z3,z4,z5,z6,z7,z8⟩:=cells9 HT4.out.z
 have fx:=frz_blk HT4.out.x
 have fz:=frz_blk HT4.out.z
 cases B
 ·have G6:=hid (G5.out W4 g1 d1 g2 d2 ld i1 HS4.out.1 HR4.out.1 HSn.out HRn.out)
  rw [HR0.out rfl] at G6
  go_wp2_with fail
  refine G6.out.mono ?_
  rintro e W5 ⟨v',rfl,h1,h2,hb⟩
  obtain ⟨x1,y1,x2,y2,x3,y3,x4,y4,rfl,q1,q2,q3,q4,ii⟩:=h1.open
  obtain ⟨n1,n2,n3,n4⟩:=h2 _ _ _ _ _ _ _ _ _ rfl
  simp only at q1 q2 q3 q4 n1 n2 n3 n4 ii
  have HT5:=hid (HT4.out.next hb)
  have HL:Hid (IA w W5 (.slice x1 rl1.length y1) rl1∧IA w W5 (.slice x2 rl2.length y2) rl2∧IA w W5 (.slice x3 rl3.length y3) rl3∧IA w W5 (.slice x4 rl4.length y4) rl4):=⟨⟨q1,n1.mono fun b hx=>.inr hx⟩,⟨q2,n2.mono fun b hx=>.inr hx⟩,⟨q3,n3.mono fun b hx=>.inr hx⟩,⟨q4,n4.mono fun b hx=>.inr hx⟩⟩
  have HN:Hid (InP (fun b=>w.heap.size≤b) (.agg (PL rid rld rep rvr x1 rl1 y1 x2 rl2 y2 x3 rl3 y3 x4 rl4 y4 rmn)) ⟨rid,rld,rep,rvr,rl1,rl2,rl3,rl4,rmn⟩):=h2.mono fun b hx=>by omega
  have HI:=hid ii
  clear q1 q2 q3 q4 n1 n2 n3 n4 ii h1 h2 hb k0 k1 k2 k3 k4 k5 k6 k7 k8 z0 z1 z2 z3 z4 z5 z6 z7 z8 fx fz
  obtain ⟨k0,k1,k2,k3,k4,k5,k6,k7,k8⟩:=cells9 HT5.out.x
  obtain ⟨z0,z1,z2,z3,z4,z5,z6,z7,z8⟩:=cells9 HT5.out.z
  have fx:=frz_blk HT5.out.x
  have fz:=frz_blk HT5.out.z
  go_wp2_with fail
  exact leaf9 HT5.out rfl Tryz.results205 (n:=.int .i64 re) rfl rfl rfl fun W9 HT9 hsz9 HOFF=>⟨_,rfl,⟨_,_,_,_,rfl,HL.out.1.offz HOFF.out hsz9,HL.out.2.1.offz HOFF.out hsz9,HL.out.2.2.1.offz HOFF.out hsz9,HL.out.2.2.2.offz HOFF.out hsz9,HI.out⟩,HN.out,HT9.out.b⟩
 ·have HR2:=hid (HR1'.out rfl)
  clear HR0 HR1'
  go_wp2_with fail
  refine (G4.out W4 g1 d1 g2 d2 HT4.out.b HS4.out.1 HR4.out.1).mono ?_
  rintro e W5 ⟨rfl,hH,hb⟩
  have HT5:=hid (HT4.out.next hb)
  have G6:=hid (G5.out W5 g1 d1 g2 d2 H hH (HS4.out.1.under hb) (HR4.out.1.under hb) HSn.out HRn.out)
  clear hb k0 k1 k2 k3 k4 k5 k6 k7 k8 z0 z1 z2 z3 z4 z5 z6 z7 z8 fx fz HT4
  obtain ⟨k0,k1,k2,k3,k4,k5,k6,k7,k8⟩:=cells9 HT5.out.x
  obtain ⟨z0,z1,z2,z3,z4,z5,z6,z7,z8⟩:=cells9 HT5.out.z
  have fx:=frz_blk HT5.out.x
  have fz:=frz_blk HT5.out.z
  rw [HR2.out] at G6
  go_wp2_with fail
  refine G6.out.mono ?_
  rintro e W6 ⟨v',rfl,h1,h2,hb⟩
  obtain ⟨x1,y1,x2,y2,x3,y3,x4,y4,rfl,q1,q2,q3,q4,ii⟩:=h1.open
  obtain ⟨n1,n2,n3,n4⟩:=h2 _ _ _ _ _ _ _ _ _ rfl
  simp only at q1 q2 q3 q4 n1 n2 n3 n4 ii
  have HT6:=hid (HT5.out.next hb)
  have HL:Hid (IA w W6 (.slice x1 rl1.length y1) rl1∧IA w W6 (.slice x2 rl2.length y2) rl2∧IA w W6 (.slice x3 rl3.length y3) rl3∧IA w W6 (.slice x4 rl4.length y4) rl4):=⟨⟨q1,n1.mono fun b hx=>.inr hx⟩,⟨q2,n2.mono fun b hx=>.inr hx⟩,⟨q3,n3.mono fun b hx=>.inr hx⟩,⟨q4,n4.mono fun b hx=>.inr hx⟩⟩
  have HN:Hid (InP (fun b=>w.heap.size≤b) (.agg (PL rid rld rep rvr x1 rl1 y1 x2 rl2 y2 x3 rl3 y3 x4 rl4 y4 rmn)) ⟨rid,rld,rep,rvr,rl1,rl2,rl3,rl4,rmn⟩):=h2.mono fun b hx=>by omega
  have HI:=hid ii
  clear q1 q2 q3 q4 n1 n2 n3 n4 ii h1 h2 hb k0 k1 k2 k3 k4 k5 k6 k7 k8 z0 z1 z2 z3 z4 z5 z6 z7 z8 fx fz
  obtain ⟨k0,k1,k2,k3,k4,k5,k6,k7,k8⟩:=cells9 HT6.out.x
  obtain ⟨z0,z1,z2,z3,z4,z5,z6,z7,z8⟩:=cells9 HT6.out.z
  have fx:=frz_blk HT6.out.x
  have fz:=frz_blk HT6.out.z
  go_wp2_with fail
  exact leaf9 HT6.out rfl Tryz.results205 (n:=.int .i64 re) rfl rfl rfl fun W9 HT9 hsz9 HOFF=>⟨_,rfl,⟨_,_,_,_,rfl,HL.out.1.offz HOFF.out hsz9,HL.out.2.1.offz HOFF.out hsz9,HL.out.2.2.1.offz HOFF.out hsz9,HL.out.2.2.2.offz HOFF.out hsz9,HI.out⟩,HN.out,HT9.out.b⟩
structure ThreeB (w W:World) (q:Nat) (cs zs ns:Array Value):Prop where
 t:TwoB w W cs zs
 n:W.heap[q]?=some (.cells ns 54)
 lo:w.heap.size+2≤q
 hi:q<W.heap.size
theorem three_new {w W:World} {cs zs:Array Value} (h:TwoB w W cs zs) (ns:Array Value):ThreeB w (W.alloc (.cells ns 54)) W.heap.size cs zs ns:=⟨h.alloc _,heap_alloc_new W _,h.s,by simp⟩
theorem ThreeB.next {w W W':World} {q:Nat} {cs zs ns:Array Value} (h:ThreeB w W q cs zs ns) (hb:Below W.heap.size W W'):ThreeB w W' q cs zs ns:=⟨h.t.next hb,(hb.block q h.hi).trans h.n,h.lo,Nat.lt_of_lt_of_le h.hi hb.size⟩
theorem ThreeB.setn {w W:World} {q:Nat} {cs zs ns:Array Value} (h:ThreeB w W q cs zs ns) (j:Nat) (u:Value):ThreeB w (W.setCell ⟨q,j,none⟩ u) q cs zs (ns.setIfInBounds j u):=by
 have hl:=h.lo
 exact ⟨⟨(Below.heap_setCell _ _ _ _ (by simp;omega)).trans h.t.x,(Below.heap_setCell _ _ _ _ (by simp;omega)).trans h.t.z,h.t.b.setCell (by simp;omega) _,by have:=h.t.s;simpa using this⟩,set_box h.n,h.lo,by have:=h.hi;simpa using this⟩
def LN (w W:World) (q:Nat) (v:Value) (l:List Int):Prop:=IL W v l∧In (fun b=>w.heap.size+2≤b∧b≠q) v l
theorem LN.under {w W W':World} {q:Nat} {v:Value} {l:List Int} (h:LN w W q v l) (hb:Below W.heap.size W W'):LN w W' q v l:=⟨h.1.under hb,h.2⟩
theorem LN.setn {w W:World} {q:Nat} {v:Value} {l:List Int} (h:LN w W q v l) (j:Nat) (u:Value):LN w (W.setCell ⟨q,j,none⟩ u) q v l:=⟨h.1.off (q:=q) (h.2.mono fun b hb=>hb.2) (fun b hb=>Below.heap_setCell _ _ _ _ hb) (by simp),h.2⟩
theorem ln_old {w W:World} {v:Value} {l:List Int} (h:IL W v l) (hn:In (fun b=>w.heap.size+2≤b) v l) (ns:Array Value):LN w (W.alloc (.cells ns 54)) W.heap.size v l:=by
 have ho:=h.old
 exact ⟨h.under ((Below.refl _ _).alloc (Nat.le_refl _) _),fun hne b off n c e=>⟨hn hne b off n c e,by have:=ho hne b off n c e;omega⟩⟩
theorem ln_new {w W W':World} {q:Nat} {v:Value} {l:List Int} (h:IL W' v l) (hn:In (fun b=>W.heap.size≤b) v l) (hq:q<W.heap.size) (hl:w.heap.size+2≤q):LN w W' q v l:=⟨h,hn.mono fun b hb=>⟨by omega,by omega⟩⟩
theorem LN.nil (w W:World) (q:Nat):LN w W q (.slice none 0 0) []:=⟨IL.nil _,In.nil _ _⟩
theorem LN.in {w W:World} {q:Nat} {v:Value} {l:List Int} (h:LN w W q v l):In (fun b=>w.heap.size+2≤b) v l:=h.2.mono fun b hb=>hb.1
theorem LN.ia {w W:World} {q:Nat} {v:Value} {l:List Int} (h:LN w W q v l):IA w W v l:=⟨h.1,h.2.mono fun b hb=>.inr hb.1⟩
theorem nine_n {w W:World} {q:Nat} {cs zs ns:Array Value} (h:ThreeB w W q cs zs ns) (hz:ns.size=9) (v0 v1 v2 v3 v4 v5 v6 v7 v8:Value):ThreeB w (((((((((W.setCell ⟨q,0,none⟩ v0).setCell ⟨q,1,none⟩ v1).setCell ⟨q,2,none⟩ v2).setCell ⟨q,3,none⟩ v3).setCell ⟨q,4,none⟩ v4).setCell ⟨q,5,none⟩ v5).setCell ⟨q,6,none⟩ v6).setCell ⟨q,7,none⟩ v7).setCell ⟨q,8,none⟩ v8) q cs zs #[v0,v1,v2,v3,v4,v5,v6,v7,v8]:=by
 obtain ⟨l⟩:=ns
 match l,hz,h with
 | [z0,z1,z2,z3,z4,z5,z6,z7,z8],_,h =>
  have h0:ThreeB w _ q cs zs #[v0,z1,z2,z3,z4,z5,z6,z7,z8]:=h.setn 0 v0
  have h1:ThreeB w _ q cs zs #[v0,v1,z2,z3,z4,z5,z6,z7,z8]:=h0.setn 1 v1
  have h2:ThreeB w _ q cs zs #[v0,v1,v2,z3,z4,z5,z6,z7,z8]:=h1.setn 2 v2
  have h3:ThreeB w _ q cs zs #[v0,v1,v2,v3,z4,z5,z6,z7,z8]:=h2.setn 3 v3
  have h4:ThreeB w _ q cs zs #[v0,v1,v2,v3,v4,z5,z6,z7,z8]:=h3.setn 4 v4
  have h5:ThreeB w _ q cs zs #[v0,v1,v2,v3,v4,v5,z6,z7,z8]:=h4.setn 5 v5
  have h6:ThreeB w _ q cs zs #[v0,v1,v2,v3,v4,v5,v6,z7,z8]:=h5.setn 6 v6
  have h7:ThreeB w _ q cs zs #[v0,v1,v2,v3,v4,v5,v6,v7,z8]:=h6.setn 7 v7
  have h8:ThreeB w _ q cs zs #[v0,v1,v2,v3,v4,v5,v6,v7,v8]:=h7.setn 8 v8
  exact h8
theorem LN.nine {w W:World} {q:Nat} {v:Value} {l:List Int} (h:LN w W q v l) (v0 v1 v2 v3 v4 v5 v6 v7 v8:Value):LN w (((((((((W.setCell ⟨q,0,none⟩ v0).setCell ⟨q,1,none⟩ v1).setCell ⟨q,2,none⟩ v2).setCell ⟨q,3,none⟩ v3).setCell ⟨q,4,none⟩ v4).setCell ⟨q,5,none⟩ v5).setCell ⟨q,6,none⟩ v6).setCell ⟨q,7,none⟩ v7).setCell ⟨q,8,none⟩ v8) q v l:=by
 obtain ⟨h1,h2⟩:=nine_off W q v0 v1 v2 v3 v4 v5 v6 v7 v8
 exact ⟨h.1.off (q:=q) (h.2.mono fun b hb=>hb.2) h1 h2,h.2⟩
theorem ThreeB.drew {w W:World} {q:Nat} {cs zs ns:Array Value} (h:ThreeB w W q cs zs ns):ThreeB w W.drew q cs zs ns:=h.next (Below.refl _ _).drew
theorem below_drewN {B:Nat} {w w':World} (h:Below B w w') (n:Nat):Below B w (w'.drewN n):=by
 induction n with
 | zero=>exact h
 | succ n ih=>exact ih.drew
theorem take_eq_snoc {l m:List Int} {k:Nat} (h:l.take k=m.take k) (hl:k<l.length) (hm:k<m.length) (he:l[k]=m[k]):l.take (k+1)=m.take (k+1):=by
 rw [List.take_succ_eq_append_getElem hl,List.take_succ_eq_append_getElem hm,h,he]
theorem equal_any {w:World} {v u:Value} {l m:List Int} (h:IL w v l) (hm:IL w u m):Calls Tryz.prog 203 #[v,u] w fun e w'=>e=.returned (.bool (decide (l=m)))∧Below w.heap.size w w':=by
 obtain ⟨⟨a,cap,rfl,hcap,hcm,hnn,hat⟩,hok,hfew⟩:=h
 obtain ⟨⟨ua,ucap,rfl,_,_,_,uat⟩,uok,ufew⟩:=hm
 have HA:=hid hat
 have HU:=hid uat
 have HOK:=hid hok
 have HUK:=hid uok
 clear hat uat hok uok hnn hcap hcm
 by_cases hl:l.length=m.length
 ·have HL:=hid hl
  have hmlen:¬ ((l.length:Int)≠(m.length:Int)):=by omega
  rw [← hl]
  clear hl
  go_enter Tryz.func203,Tryz.ntmps203
  go_wp2_with fail
  go_loopg [13] l.length (fun kx s13 wr=>∃ k:Nat,k≤l.length∧l.length - k≤kx∧s13=.int .i64 (k:Int)∧Hid (l.take k=m.take k∧Below w.heap.size w wr))
  case atStart=>exact ⟨0,Nat.zero_le _,by omega,rfl,by simp,Below.refl _ _⟩
  case round =>
   obtain ⟨k,hk,hkx,rfl,HR⟩:=hrel
   by_cases hlt:k<l.length
   ·have hltm:k<m.length:=by have:=HL.out;omega
    obtain ⟨b,off,rfl,hb,hc⟩:=HA.out (by intro e;rw [e] at hlt;simp at hlt)
    obtain ⟨b2,off2,rfl,hb2,hc2⟩:=HU.out (by intro e;rw [e] at hltm;simp at hltm)
    have hck:=kept_cell HR.out.2 (hc k hlt)
    have hck2:=kept_cell HR.out.2 (hc2 k hltm)
    have hok:=HOK.out l[k] (by simp)
    have huk:=HUK.out m[k] (by simp)
    have HT:=hid (take_eq_snoc HR.out.1 hlt hltm)
    have HE:Hid (l=m→l[k]=m[k]):=fun e=>by subst e;rfl
    have hlt':(k:Int)<(l.length:Int):=by omega
    have hk0:(0:Int)≤(k:Int):=by omega
    generalize l[k]=y at *
    generalize m[k]=z at *
    clear hc hc2
    by_cases he:y=z
    ·have HTT:=hid (HT.out he)
     subst he
     go_wp2_with fail
     go_quiet (fail)
     go_wp2_with fail
     go_roundg (l.length - (k+1))
     case measure=>omega
     case rel=>exact ⟨k+1,by omega,Nat.le_refl _,by go_num,HTT.out,by first | exact HR.out.2 | exact HR.out.2.drew | exact below_drewN HR.out.2 _⟩
    ·have HF:Hid (decide (l=m)=false):=by show _=_;simp;intro e;exact he (HE.out e)
     go_wp2_with fail
     go_quiet (fail)
     go_wp2_with fail
     go_ret
     exact ⟨by rw [HF.out];rfl,by first | exact HR.out.2 | exact HR.out.2.drew | exact below_drewN HR.out.2 _⟩
   ·have hlt':¬ (k:Int)<(l.length:Int):=by omega
    go_wp2_with fail
    go_ret
    have hr:=HR.out
    rw [List.take_of_length_le (by omega),List.take_of_length_le (by have:=HL.out;omega)] at hr
    exact ⟨by rw [hr.1];simp,hr.2⟩
 ·have HF:Hid (decide (l=m)=false):=by show _=_;simp;intro e;exact hl (by rw [e])
  have hmlen:((l.length:Int)≠(m.length:Int)):=by omega
  go_enter Tryz.func203,Tryz.ntmps203
  go_wp2_with fail
  go_ret
  exact ⟨by rw [HF.out];rfl,Below.refl _ _⟩
theorem moving_any {w:World} {v:Value} {p:Pt} (h:PartM w v p):Calls Tryz.prog 202 #[v] w fun e w'=>e=.returned (.bool (movingB p))∧Below w.heap.size w w':=by
 obtain ⟨id,ld,ep,vr,isr,reps,add,rem,mn⟩:=p
 obtain ⟨a1,c1,a2,c2,a3,c3,a4,c4,rfl,q1,q2,q3,q4,i0,i1,i2,i3,i4⟩:=h.open
 simp only at q1 q2 q3 q4 i0 i1 i2 i3 i4 ⊢
 have Q1:=hid q1
 have Q2:=hid q2
 have Q3:=hid q3
 have Q4:=hid q4
 clear h q1 q2 q3 q4
 have HX:Hid ((w.alloc (.cells (PL id ld ep vr a1 isr c1 a2 reps c2 a3 add c3 a4 rem c4 mn) 54)).heap[w.heap.size]?=some (.cells (PL id ld ep vr a1 isr c1 a2 reps c2 a3 add c3 a4 rem c4 mn) 54)):=heap_alloc_new w _
 have HB:Hid (Below w.heap.size w (w.alloc (.cells (PL id ld ep vr a1 isr c1 a2 reps c2 a3 add c3 a4 rem c4 mn) 54))):=(Below.refl _ _).alloc (Nat.le_refl _) _
 have hsz:(w.alloc (.cells (PL id ld ep vr a1 isr c1 a2 reps c2 a3 add c3 a4 rem c4 mn) 54)).heap.size=w.heap.size+1:=by simp
 have HN:Hid (movingB ⟨id,ld,ep,vr,isr,reps,add,rem,mn⟩=(decide (0<add.length) || decide (0<rem.length))):=rfl
 rw [HN.out]
 clear HN i0 i1 i2 i3 i4 Q1 Q2 Q3 Q4
 by_cases h0:0<add.length
 ·have h0':(0:Int)<(add.length:Int):=by omega
  go_enter Tryz.func202,Tryz.ntmps202
  go_wp2_with fail
  go_ret
  exact ⟨ret_bool (by simp [h0]),HB.out⟩
 ·have h0':¬ (0:Int)<(add.length:Int):=by omega
  go_enter Tryz.func202,Tryz.ntmps202
  go_wp2_with fail
  go_ret
  exact ⟨ret_bool (by simp [h0]),HB.out⟩
theorem mayT_any {w:World} {v:Value} {l:List Int} (h:IL w v l):Calls Tryz.prog 201 #[v] w fun e w'=>e=.returned (.bool (mayB l))∧Below w.heap.size w w':=by
 have HN:Hid (mayB l=(upB l.length 5 && idsB l)):=rfl
 have G2:=hid (areRight_any h)
 have hf:=h.few
 obtain ⟨a,c,rfl,_⟩:=h.shape
 have G1:=hid (isUpTo_any (l.length:Int) 5 w (by unfold I64;omega) (by unfold I64;omega))
 rw [HN.out]
 generalize upB (l.length:Int) 5=B1 at *
 generalize idsB l=B2 at *
 clear HN h
 go_enter Tryz.func201,Tryz.ntmps201
 go_wp2_with fail
 refine G1.out.mono ?_
 rintro e w1 ⟨rfl,rfl⟩
 cases B1
 ·go_wp2_with fail
  go_ret
  exact ⟨by first | rfl | simp,Below.refl _ _⟩
 go_wp2_with fail
 refine G2.out.mono ?_
 rintro e w1 ⟨rfl,hb⟩
 go_wp2_with fail
 go_ret
 exact ⟨ret_bool (by simp),hb⟩
theorem held_any {w:World} {v:Value} {p:Pt} (h:PartM w v p) (e v0:Int) (he:I64 e) (hv:I64 v0):Calls Tryz.prog 199 #[v,.int .i64 e,.int .i64 v0] w fun e' w'=>e'=.returned (.int .i64 (heldP p e v0))∧Below w.heap.size w w':=by
 obtain ⟨id,ld,ep,vr,isr,reps,add,rem,mn⟩:=p
 obtain ⟨a1,c1,a2,c2,a3,c3,a4,c4,rfl,q1,q2,q3,q4,i0,i1,i2,i3,i4⟩:=h.open
 simp only at q1 q2 q3 q4 i0 i1 i2 i3 i4 ⊢
 have Q1:=hid q1
 have Q2:=hid q2
 have Q3:=hid q3
 have Q4:=hid q4
 clear h q1 q2 q3 q4
 have HX:Hid ((w.alloc (.cells (PL id ld ep vr a1 isr c1 a2 reps c2 a3 add c3 a4 rem c4 mn) 54)).heap[w.heap.size]?=some (.cells (PL id ld ep vr a1 isr c1 a2 reps c2 a3 add c3 a4 rem c4 mn) 54)):=heap_alloc_new w _
 have HB:Hid (Below w.heap.size w (w.alloc (.cells (PL id ld ep vr a1 isr c1 a2 reps c2 a3 add c3 a4 rem c4 mn) 54))):=(Below.refl _ _).alloc (Nat.le_refl _) _
 have hsz:(w.alloc (.cells (PL id ld ep vr a1 isr c1 a2 reps c2 a3 add c3 a4 rem c4 mn) 54)).heap.size=w.heap.size+1:=by simp
 have HN:Hid (heldP ⟨id,ld,ep,vr,isr,reps,add,rem,mn⟩ e v0=if e<ep∨(e=ep∧v0<vr) then 13 else if ep<e∨vr<v0 then 14 else 0):=rfl
 clear i0 i1 i2 i3 i4 Q1 Q2 Q3 Q4
 by_cases h1:e<ep
 ·have HV:Hid (heldP ⟨id,ld,ep,vr,isr,reps,add,rem,mn⟩ e v0=13):=by show _=_;rw [HN.out,if_pos (.inl h1)]
  rw [HV.out]
  clear HN HV
  go_enter Tryz.func199,Tryz.ntmps199
  go_wp2_with fail
  go_ret
  exact ⟨rfl,HB.out⟩
 ·by_cases h2:e=ep
  ·subst h2
   by_cases h3:v0<vr
   ·have HV:Hid (heldP ⟨id,ld,e,vr,isr,reps,add,rem,mn⟩ e v0=13):=by show _=_;rw [HN.out,if_pos (.inr ⟨rfl,h3⟩)]
    rw [HV.out]
    clear HN HV
    go_enter Tryz.func199,Tryz.ntmps199
    go_wp2_with fail
    go_ret
    exact ⟨rfl,HB.out⟩
   ·by_cases h4:vr<v0
    ·have HV:Hid (heldP ⟨id,ld,e,vr,isr,reps,add,rem,mn⟩ e v0=14):=by show _=_;rw [HN.out,if_neg (by omega),if_pos (.inr h4)]
     rw [HV.out]
     clear HN HV
     go_enter Tryz.func199,Tryz.ntmps199
     go_wp2_with fail
     go_ret
     exact ⟨rfl,HB.out⟩
    ·have HV:Hid (heldP ⟨id,ld,e,vr,isr,reps,add,rem,mn⟩ e v0=0):=by show _=_;rw [HN.out,if_neg (by omega),if_neg (by omega)]
     rw [HV.out]
     clear HN HV
     go_enter Tryz.func199,Tryz.ntmps199
     go_wp2_with fail
     go_ret
     exact ⟨rfl,HB.out⟩
  ·have h3:ep<e:=by omega
   have HV:Hid (heldP ⟨id,ld,ep,vr,isr,reps,add,rem,mn⟩ e v0=14):=by show _=_;rw [HN.out,if_neg (by omega),if_pos (.inl h3)]
   rw [HV.out]
   clear HN HV
   go_enter Tryz.func199,Tryz.ntmps199
   go_wp2_with fail
   go_ret
   exact ⟨rfl,HB.out⟩
theorem zeros_size (n:Nat):(Builtin.zeroCells (Value.int .i64 0).cells n).size=n:=by
 simp [Builtin.zeroCells,Value.cells]
theorem grow_any (w:World) (n:Nat) (h0:1≤n) (h1:n≤1000):Calls Tryz.prog 210 #[.slice none 0 0,.int .i64 (n:Int)] w fun e w'=>∃ cap,e=.returned (.slice (some ⟨w.heap.size,0,none⟩) 0 cap)∧w'.ownsRow w.heap.size 3 1 (.slice (some ⟨w.heap.size,0,none⟩) 0 cap) 0 []∧Below w.heap.size w w':=by
 obtain ⟨i0,hi0,hz0,hz1,hz2⟩:=info3
 have happ:=Lib.run_append_nil_zeros (P:=Tryz.prog) w 23 3 23 3 i0 (.int .i64 0) .i64 .i64 Tryz.underlying23 Tryz.underlying3 hi0 hz0 n (by omega) (by omega) (by omega) (by rw [hz2];omega)
 have HAPP:=hid happ
 clear happ
 have hge:=grownCap_ge w n 0 3
 have hcm:grownCap w n 0 3≤maxLen:=grownCap_le_maxLen w n 0 3 (by unfold maxLen;omega)
 have HROW:Hid ((w.drew.alloc (.cells (Builtin.zeroCells (Value.int .i64 0).cells n++Builtin.zeroCells (Value.int .i64 0).cells (grownCap w n 0 3 - n)) 3)).ownsRow w.heap.size 3 1 (.slice (some ⟨w.heap.size,0,none⟩) 0 (grownCap w n 0 3)) 0 []):=by
  refine ⟨rfl,.inr ⟨w.heap.size,_,_,rfl,Nat.le_refl _,heap_alloc_new w.drew _,Nat.zero_le _,hcm,?_,rfl⟩⟩
  rw [Array.size_append,zeros_size,zeros_size];omega
 have HB:Hid (Below w.heap.size w (w.drew.alloc (.cells (Builtin.zeroCells (Value.int .i64 0).cells n++Builtin.zeroCells (Value.int .i64 0).cells (grownCap w n 0 3 - n)) 3))):=(Below.refl _ _).drew.alloc (Nat.le_refl _) _
 generalize w.drew.alloc (.cells (Builtin.zeroCells (Value.int .i64 0).cells n++Builtin.zeroCells (Value.int .i64 0).cells (grownCap w n 0 3 - n)) 3)=W1 at *
 generalize grownCap w n 0 3=cap at *
 have hc0:(0:Int)≤(cap:Int):=by omega
 have hn0:¬ (n:Int)<0:=by omega
 have hn1:(0:Int)<(n:Int):=by omega
 go_enter Tryz.func210,Tryz.ntmps210
 go_wp2_with (at_builtin;go_loud (refine Lib.wpList_append_run _ rfl _ _ _ _ rfl _ _ rfl rfl _ _ HAPP.out ?_))
 go_ret
 exact ⟨cap,rfl,HROW.out,HB.out⟩
theorem IL.vcells {w:World} {ad:Addr} {n c:Nat} {l:List Int} (h:IL w (.slice (some ad) n c) l):n=l.length∧∀ j u,(vals l)[j]?=some u→w.cell? (ad.add j)=some u:=by
 obtain ⟨⟨a,cap,e,_,_,_,h4⟩,_⟩:=id h
 cases e
 refine ⟨rfl,fun j u hu=>?_⟩
 by_cases hne:l=[]
 ·subst hne;simp [vals] at hu
 ·obtain ⟨b,off,e1,_⟩:=h4 hne
  cases e1
  exact h.cells rfl hne j u hu
theorem IL.none_nil {w:World} {n c:Nat} {l:List Int} (h:IL w (.slice none n c) l):n=0∧c=0∧l=[]:=by
 obtain ⟨⟨a,cap,e,h1,_,h3,_⟩,_⟩:=h
 cases e
 have:=h3 rfl
 subst this
 have:l=[]:=List.eq_nil_of_length_eq_zero (by omega)
 subst this
 exact ⟨rfl,rfl,rfl⟩
theorem own_shape {w:World} {B n:Nat} {v:Value} {xs:List Value} (h:w.ownsRow B 3 1 v n xs):∃ a n c,v=.slice a n c:=by
 rcases h.2 with ⟨e,_⟩ | ⟨g,cp,cur,e,_⟩
 ·exact ⟨_,_,_,e⟩
 ·exact ⟨_,_,_,e⟩
theorem concat_any {w:World} {ad1:Addr} {oa2:Option Addr} {k1 k2:Nat} {l1 l2:List Int} {g0:Nat} (h1:IL w (.slice (some ad1) l1.length k1) l1) (h2:IL w (.slice oa2 l2.length k2) l2)
  (hg:w.heap[g0]?=some (.cells #[.slice (some ad1) l1.length k1,.slice oa2 l2.length k2] 23)) (hn1:1≤l1.length) (hn2:l1.length+l2.length≤1000) :
  Calls Tryz.prog 204 #[.slice (some ⟨g0,0,none⟩) 2 2] w fun e w'=>∃ v',e=.returned v'∧IL w' v' (l1++l2)∧In (fun b=>w.heap.size≤b) v' (l1++l2)∧Below w.heap.size w w':=by
 obtain ⟨i0,hi0,hz0,hz1,hz2⟩:=info3
 have H1:=hid h1
 have H2:=hid h2
 have c0:=cell_blk hg 0 _ rfl
 have c1:=cell_blk hg 1 _ rfl
 have C0:=hid c0
 have C1:=hid c1
 have GR:=hid (grow_any w (l1.length+l2.length) (by omega) hn2)
 obtain ⟨s,hs⟩:∃ s,l1.length+l2.length=s:=⟨_,rfl⟩
 have HS:Hid (l1.length+l2.length=s):=hs
 have hsc:(l1.length:Int)+(l2.length:Int)=(s:Int):=by omega
 rw [hs] at GR
 have hs1:s≤1000:=by omega
 have ha1:l1.length≤1000:=by omega
 have ha2:l2.length≤1000:=by omega
 have HSC:=hid hsc
 clear h1 h2 hg hs hsc
 have hp1:¬ (l1.length:Int)<0:=by omega
 have hp2:¬ (l1.length:Int)+(l2.length:Int)<0:=by omega
 go_enter Tryz.func204,Tryz.ntmps204
 go_wp2_with fail
 refine wp_loop_rounds 3 ?_
 rw [rounds_succ]
 go_wp2_with fail
 rw [rounds_succ]
 go_wp2_with fail
 rw [rounds_succ]
 go_wp2_with fail
 rw [HSC.out]
 refine GR.out.mono ?_
 rintro e W1 ⟨cap,rfl,ho,hb⟩
 have HO:=hid ho
 have HB:=hid hb
 clear ho hb c0 c1
 have c0:=kept_cell HB.out C0.out
 have c1:=kept_cell HB.out C1.out
 go_wp2_with fail
 refine wp_loop_rounds 3 ?_
 rw [rounds_succ]
 have V1:=hid (H1.out.under HB.out).vcells.2
 have N1:=hid (vals_one l1)
 have L1:Hid ((vals l1).length=l1.length*1):=by show _=_;rw [vals_length];omega
 have hbs:=HB.out.size
 go_wp2_with (at_builtin;refine wpList_append_own_at _ rfl _ _ 23 rfl w.heap.size 3 i0 _ 1 8 Tryz.underlying23 hi0 hz0 hz1 hz2 rfl (by decide) _ 0 [] rfl HO.out ad1 l1.length k1 (vals l1) rfl L1.out V1.out N1.out (by unfold maxLen;omega) (by omega) (by omega) ?_;intro v2 W2 hown2 hg2 _ hat2)
 have HB2:Hid (Below w.heap.size w W2):=HB.out.grown hg2 HB.out.size (fun j hj=>(World.ownsRow.lt HO.out j hj).1)
 rw [Nat.zero_add,List.nil_append] at hown2
 obtain ⟨b1,b2,b3,rfl⟩:=own_shape hown2
 have HO2:=hid hown2
 clear hown2 hg2 hat2 c0 c1 V1 N1 L1
 have c0:=kept_cell HB2.out C0.out
 have c1:=kept_cell HB2.out C1.out
 have hbs2:=HB2.out.size
 go_wp2_with fail
 rw [rounds_succ]
 cases oa2 with
 | none =>
  obtain ⟨e1,e2,e3⟩:=H2.out.none_nil
  subst e2
  subst e3
  have c1':W2.cell? ⟨g0,1,none⟩=some (.slice none 0 0):=c1
  clear c1
  go_wp2_with (at_builtin;refine wpList_append_own_none rfl _ _ 23 rfl w.heap.size 3 i0 1 Tryz.underlying23 hi0 _ l1.length (vals l1) rfl HO2.out rfl ?_)
  rw [rounds_succ]
  go_wp2_with fail
  go_ret
  rw [List.append_nil]
  exact ⟨_,rfl,IL.of HO2.out H1.out.ok (by omega),in_own HO2.out,HB2.out⟩
 | some ad2 =>
  have V2:=hid (H2.out.under HB2.out).vcells.2
  have N2:=hid (vals_one l2)
  have L2:Hid ((vals l2).length=l2.length*1):=by show _=_;rw [vals_length];omega
  go_wp2_with (at_builtin;refine wpList_append_own_at _ rfl _ _ 23 rfl w.heap.size 3 i0 _ 1 8 Tryz.underlying23 hi0 hz0 hz1 hz2 rfl (by decide) _ l1.length (vals l1) rfl HO2.out ad2 l2.length k2 (vals l2) rfl L2.out V2.out N2.out (by unfold maxLen;omega) (by omega) (by omega) ?_;intro v3 W3 hown3 hg3 _ hat3)
  have HB3:Hid (Below w.heap.size w W3):=HB2.out.grown hg3 HB2.out.size (fun j hj=>(World.ownsRow.lt HO2.out j hj).1)
  obtain ⟨b4,b5,b6,rfl⟩:=own_shape hown3
  have HO3:Hid (W3.ownsRow w.heap.size 3 1 (.slice b4 b5 b6) (l1++l2).length (vals (l1++l2))):=by
   have:=hown3
   rw [show vals l1++vals l2=vals (l1++l2) by simp [vals],← List.length_append] at this
   exact this
  clear hown3 hg3 hat3 c0 c1
  go_wp2_with fail
  rw [rounds_succ]
  go_wp2_with fail
  go_ret
  exact ⟨_,rfl,IL.of HO3.out (fun x hx=>by rcases List.mem_append.1 hx with hx | hx;exact H1.out.ok x hx;exact H2.out.ok x hx) (by rw [List.length_append];omega),in_own HO3.out,HB3.out⟩
end Go.Proofs.YtcffomhcmilcpaaGreat
