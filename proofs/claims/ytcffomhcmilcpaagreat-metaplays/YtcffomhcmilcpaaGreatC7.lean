/- Back. -/
import Derived.Test.YtcffomhcmilcpaaGreatC3
import Derived.Test.YtcffomhcmilcpaaGreatC5
import Derived.Test.YtcffomhcmilcpaaGreatC6
set_option maxRecDepth 100000
set_option maxHeartbeats 20000000
set_option linter.unusedVariables false
set_option linter.unusedSimpArgs false
namespace Go.Proofs.YtcffomhcmilcpaaGreat
open Go.RowKit Go.Maps
theorem back_any {w:World} {v:Value} {p:Pt} (h:PartM w v p) (l:Int) (hl:I64 l) :
  Calls Tryz.prog 118 #[v,.int .i64 l] w fun e w'=>Res (fun b=>w.heap.size≤b) w (backP p l) e w':=by
 obtain ⟨id,ld,ep,vr,isr,reps,add,rem,mn⟩:=p
 obtain ⟨a1,c1,a2,c2,a3,c3,a4,c4,rfl,q1,q2,q3,q4,i0,i1,i2,i3,i4⟩:=h.open
 simp only at q1 q2 q3 q4 i0 i1 i2 i3 i4 ⊢
 have Q1:=hid q1
 have Q2:=hid q2
 have Q3:=hid q3
 have Q4:=hid q4
 clear h q1 q2 q3 q4
 have HT0:=hid (two_new w (PL id ld ep vr a1 isr c1 a2 reps c2 a3 add c3 a4 rem c4 mn) PZ)
 have G12:Hid (∀ W,Below w.heap.size w W→Calls Tryz.prog 96 #[.agg (PL id ld ep vr a1 isr c1 a2 reps c2 a3 add c3 a4 rem c4 mn)] W fun e w'=>e=.returned (.bool (rightB ⟨id,ld,ep,vr,isr,reps,add,rem,mn⟩))∧Below W.heap.size W w'):=fun W hb=>right_any ⟨_,_,_,_,rfl,Q1.out.under hb,Q2.out.under hb,Q3.out.under hb,Q4.out.under hb,i0,i1,i2,i3,i4⟩
 have G15:Hid (∀ W,Below w.heap.size w W→Calls Tryz.prog 62 #[.agg (PL id ld ep vr a1 isr c1 a2 reps c2 a3 add c3 a4 rem c4 mn)] W fun e w'=>∃ v',e=.returned v'∧PartM w' v' ⟨id,ld,ep,vr,isr,reps,add,rem,mn⟩∧InP (fun b=>W.heap.size≤b) v' ⟨id,ld,ep,vr,isr,reps,add,rem,mn⟩∧Below W.heap.size W w'):=fun W hb=>clone_any ⟨_,_,_,_,rfl,Q1.out.under hb,Q2.out.under hb,Q3.out.under hb,Q4.out.under hb,i0,i1,i2,i3,i4⟩
 have G58:=hid (fun W=>isBroker_any l W hl)
 have G50:Hid (∀ W,Below w.heap.size w W→Calls Tryz.prog 158 #[.slice a1 isr.length c1,.int .i64 l] W fun e w'=>e=.returned (.bool (lackB isr l))∧W=w'):=fun W hb=>lacks_any (Q1.out.under hb) l hl
 have HE:Hid (backP ⟨id,ld,ep,vr,isr,reps,add,rem,mn⟩ l=if !rightB ⟨id,ld,ep,vr,isr,reps,add,rem,mn⟩ || !upB l 7 then (Pt.zero,1) else if ld≠0∨lackB isr l=true then (⟨id,ld,ep,vr,isr,reps,add,rem,mn⟩,0) else changedP ⟨id,ld,ep,vr,isr,reps,add,rem,mn⟩ l):=rfl
 have HBD:Hid (rightB ⟨id,ld,ep,vr,isr,reps,add,rem,mn⟩=true→(1≤ep∧ep≤1000000000)∧(1≤vr∧vr≤1000000000)):=fun e=>⟨(rightB_iff.1 e).epoch,(rightB_iff.1 e).ver⟩
 generalize backP ⟨id,ld,ep,vr,isr,reps,add,rem,mn⟩ l=r at *
 generalize hc:changedP ⟨id,ld,ep,vr,isr,reps,add,rem,mn⟩ l=r2 at *
 obtain ⟨⟨rid,rld,rep,rvr,rl1,rl2,rl3,rl4,rmn⟩,re⟩:=r2
 have HC:=hid hc
 generalize rightB ⟨id,ld,ep,vr,isr,reps,add,rem,mn⟩=B1 at *
 generalize upB l 7=B2 at *
 generalize lackB isr l=B3 at *
 clear hc i0 i1 i2 i3 i4 Q1 Q2 Q3 Q4
 go_enter Tryz.func118,Tryz.ntmps118
 go_wp2_with fail
 generalize (w.alloc (.cells (PL id ld ep vr a1 isr c1 a2 reps c2 a3 add c3 a4 rem c4 mn) 54)).alloc (.cells PZ 54)=W0 at *
 refine (G12.out _ HT0.out.b).mono ?_
 rintro e W1 ⟨rfl,hb⟩
 have HT1:=hid (HT0.out.next hb)
 clear hb
 obtain ⟨k0,k1,k2,k3,k4,k5,k6,k7,k8⟩:=cells9 HT1.out.x
 obtain ⟨z0,z1,z2,z3,z4,z5,z6,z7,z8⟩:=cells9 HT1.out.z
 have fx:=frz_blk HT1.out.x
 have fz:=frz_blk HT1.out.z
 cases B1
 ·have HR:Hid (r=(Pt.zero,1)):=by show _=_;rw [HE.out];simp
  go_wp2_with fail
  exact leaf9 HT1.out rfl Tryz.results118 (n:=.int .i64 1) rfl rfl rfl fun W9 HT9 hsz9 HOFF=>(by rw [HR.out];exact res_err _ HT9.out.b)
 obtain ⟨hep,hvr⟩:=HBD.out rfl
 go_wp2_with fail
 refine (G58.out _).mono ?_
 rintro e W2 ⟨rfl,rfl⟩
 cases B2
 ·have HR:Hid (r=(Pt.zero,1)):=by show _=_;rw [HE.out];simp
  go_wp2_with fail
  exact leaf9 HT1.out rfl Tryz.results118 (n:=.int .i64 1) rfl rfl rfl fun W9 HT9 hsz9 HOFF=>(by rw [HR.out];exact res_err _ HT9.out.b)
 by_cases h0:ld=0
 ·subst h0
  go_wp2_with fail
  refine (G50.out _ HT1.out.b).mono ?_
  rintro e W2 ⟨rfl,rfl⟩
  cases B3
  ·have HR:Hid (r=(⟨rid,rld,rep,rvr,rl1,rl2,rl3,rl4,rmn⟩,re)):=by show _=_;rw [HE.out];simp
   have HC0:=hid HC.out
   clear HE HC
   go_wp2_with fail
   refine (G15.out _ HT1.out.b).mono ?_
   rintro e W2 ⟨v',rfl,h1,h2,hb⟩
   have h2':=h2.mono (Y:=fun b=>w.heap.size+2≤b) fun b hx=>Nat.le_trans HT1.out.s hx
   obtain ⟨x1,y1,x2,y2,x3,y3,x4,y4,rfl,q1,q2,q3,q4,ii⟩:=h1.open
   obtain ⟨n1,n2,n3,n4⟩:=h2' _ _ _ _ _ _ _ _ _ rfl
   simp only at q1 q2 q3 q4 n1 n2 n3 n4 ii
   have HT2:=hid (HT1.out.next hb)
   have G53:=hid (changed_any h1 h2' l hl hep hvr)
   rw [HC0.out] at G53
   clear q1 q2 q3 q4 n1 n2 n3 n4 ii h1 h2 h2' hb k0 k1 k2 k3 k4 k5 k6 k7 k8 z0 z1 z2 z3 z4 z5 z6 z7 z8 fx fz
   obtain ⟨k0,k1,k2,k3,k4,k5,k6,k7,k8⟩:=cells9 HT2.out.x
   obtain ⟨z0,z1,z2,z3,z4,z5,z6,z7,z8⟩:=cells9 HT2.out.z
   have fx:=frz_blk HT2.out.x
   have fz:=frz_blk HT2.out.z
   go_wp2_with fail
   refine G53.out.mono ?_
   rintro e W3 ⟨v',rfl,h1,h2,hb⟩
   obtain ⟨t1,u1,t2,u2,t3,u3,t4,u4,rfl,q1,q2,q3,q4,ii⟩:=h1.open
   obtain ⟨n1,n2,n3,n4⟩:=h2 _ _ _ _ _ _ _ _ _ rfl
   simp only at q1 q2 q3 q4 n1 n2 n3 n4 ii
   have HT3:=hid (HT2.out.next hb)
   have HL:Hid (IA w W3 (.slice t1 rl1.length u1) rl1∧IA w W3 (.slice t2 rl2.length u2) rl2∧IA w W3 (.slice t3 rl3.length u3) rl3∧IA w W3 (.slice t4 rl4.length u4) rl4):=⟨⟨q1,n1.mono fun b hx=>.inr hx⟩,⟨q2,n2.mono fun b hx=>.inr hx⟩,⟨q3,n3.mono fun b hx=>.inr hx⟩,⟨q4,n4.mono fun b hx=>.inr hx⟩⟩
   have HN:Hid (InP (fun b=>w.heap.size≤b) (.agg (PL rid rld rep rvr t1 rl1 u1 t2 rl2 u2 t3 rl3 u3 t4 rl4 u4 rmn)) ⟨rid,rld,rep,rvr,rl1,rl2,rl3,rl4,rmn⟩):=h2.mono fun b hx=>by omega
   have HI:=hid ii
   clear q1 q2 q3 q4 n1 n2 n3 n4 ii h1 h2 hb k0 k1 k2 k3 k4 k5 k6 k7 k8 z0 z1 z2 z3 z4 z5 z6 z7 z8 fx fz
   obtain ⟨k0,k1,k2,k3,k4,k5,k6,k7,k8⟩:=cells9 HT3.out.x
   obtain ⟨z0,z1,z2,z3,z4,z5,z6,z7,z8⟩:=cells9 HT3.out.z
   have fx:=frz_blk HT3.out.x
   have fz:=frz_blk HT3.out.z
   go_wp2_with fail
   exact leaf9 HT3.out rfl Tryz.results118 (n:=.int .i64 re) rfl rfl rfl fun W9 HT9 hsz9 HOFF=>(by rw [HR.out];exact ⟨_,rfl,⟨_,_,_,_,rfl,HL.out.1.offz HOFF.out hsz9,HL.out.2.1.offz HOFF.out hsz9,HL.out.2.2.1.offz HOFF.out hsz9,HL.out.2.2.2.offz HOFF.out hsz9,HI.out⟩,HN.out,HT9.out.b⟩)
  ·have HR:Hid (r=(⟨id,0,ep,vr,isr,reps,add,rem,mn⟩,0)):=by show _=_;rw [HE.out];simp
   clear HE HC
   go_wp2_with fail
   refine (G15.out _ HT1.out.b).mono ?_
   rintro e W2 ⟨v',rfl,h1,h2,hb⟩
   have h2':=h2.mono (Y:=fun b=>w.heap.size+2≤b) fun b hx=>Nat.le_trans HT1.out.s hx
   obtain ⟨x1,y1,x2,y2,x3,y3,x4,y4,rfl,q1,q2,q3,q4,ii⟩:=h1.open
   obtain ⟨n1,n2,n3,n4⟩:=h2' _ _ _ _ _ _ _ _ _ rfl
   simp only at q1 q2 q3 q4 n1 n2 n3 n4 ii
   have HT2:=hid (HT1.out.next hb)
   have HL:Hid (IA w W2 (.slice x1 isr.length y1) isr∧IA w W2 (.slice x2 reps.length y2) reps∧IA w W2 (.slice x3 add.length y3) add∧IA w W2 (.slice x4 rem.length y4) rem):=⟨⟨q1,n1.mono fun b hx=>.inr hx⟩,⟨q2,n2.mono fun b hx=>.inr hx⟩,⟨q3,n3.mono fun b hx=>.inr hx⟩,⟨q4,n4.mono fun b hx=>.inr hx⟩⟩
   have HN:Hid (InP (fun b=>w.heap.size≤b) (.agg (PL id 0 ep vr x1 isr y1 x2 reps y2 x3 add y3 x4 rem y4 mn)) ⟨id,0,ep,vr,isr,reps,add,rem,mn⟩):=h2'.mono fun b hx=>by omega
   have HI:=hid ii
   clear q1 q2 q3 q4 n1 n2 n3 n4 ii h1 h2 h2' hb k0 k1 k2 k3 k4 k5 k6 k7 k8 z0 z1 z2 z3 z4 z5 z6 z7 z8 fx fz
   obtain ⟨k0,k1,k2,k3,k4,k5,k6,k7,k8⟩:=cells9 HT2.out.x
   obtain ⟨z0,z1,z2,z3,z4,z5,z6,z7,z8⟩:=cells9 HT2.out.z
   have fx:=frz_blk HT2.out.x
   have fz:=frz_blk HT2.out.z
   go_wp2_with fail
   exact leaf9 HT2.out rfl Tryz.results118 (n:=.int .i64 0) rfl rfl rfl fun W9 HT9 hsz9 HOFF=>(by rw [HR.out];exact ⟨_,rfl,⟨_,_,_,_,rfl,HL.out.1.offz HOFF.out hsz9,HL.out.2.1.offz HOFF.out hsz9,HL.out.2.2.1.offz HOFF.out hsz9,HL.out.2.2.2.offz HOFF.out hsz9,HI.out⟩,HN.out,HT9.out.b⟩)
 ·have HR:Hid (r=(⟨id,ld,ep,vr,isr,reps,add,rem,mn⟩,0)):=by show _=_;rw [HE.out];simp [h0]
  clear HE HC
  go_wp2_with fail
  refine (G15.out _ HT1.out.b).mono ?_
  rintro e W2 ⟨v',rfl,h1,h2,hb⟩
  have h2':=h2.mono (Y:=fun b=>w.heap.size+2≤b) fun b hx=>Nat.le_trans HT1.out.s hx
  obtain ⟨x1,y1,x2,y2,x3,y3,x4,y4,rfl,q1,q2,q3,q4,ii⟩:=h1.open
  obtain ⟨n1,n2,n3,n4⟩:=h2' _ _ _ _ _ _ _ _ _ rfl
  simp only at q1 q2 q3 q4 n1 n2 n3 n4 ii
  have HT2:=hid (HT1.out.next hb)
  have HL:Hid (IA w W2 (.slice x1 isr.length y1) isr∧IA w W2 (.slice x2 reps.length y2) reps∧IA w W2 (.slice x3 add.length y3) add∧IA w W2 (.slice x4 rem.length y4) rem):=⟨⟨q1,n1.mono fun b hx=>.inr hx⟩,⟨q2,n2.mono fun b hx=>.inr hx⟩,⟨q3,n3.mono fun b hx=>.inr hx⟩,⟨q4,n4.mono fun b hx=>.inr hx⟩⟩
  have HN:Hid (InP (fun b=>w.heap.size≤b) (.agg (PL id ld ep vr x1 isr y1 x2 reps y2 x3 add y3 x4 rem y4 mn)) ⟨id,ld,ep,vr,isr,reps,add,rem,mn⟩):=h2'.mono fun b hx=>by omega
  have HI:=hid ii
  clear q1 q2 q3 q4 n1 n2 n3 n4 ii h1 h2 h2' hb k0 k1 k2 k3 k4 k5 k6 k7 k8 z0 z1 z2 z3 z4 z5 z6 z7 z8 fx fz
  obtain ⟨k0,k1,k2,k3,k4,k5,k6,k7,k8⟩:=cells9 HT2.out.x
  obtain ⟨z0,z1,z2,z3,z4,z5,z6,z7,z8⟩:=cells9 HT2.out.z
  have fx:=frz_blk HT2.out.x
  have fz:=frz_blk HT2.out.z
  go_wp2_with fail
  exact leaf9 HT2.out rfl Tryz.results118 (n:=.int .i64 0) rfl rfl rfl fun W9 HT9 hsz9 HOFF=>(by rw [HR.out];exact ⟨_,rfl,⟨_,_,_,_,rfl,HL.out.1.offz HOFF.out hsz9,HL.out.2.1.offz HOFF.out hsz9,HL.out.2.2.1.offz HOFF.out hsz9,HL.out.2.2.2.offz HOFF.out hsz9,HI.out⟩,HN.out,HT9.out.b⟩)
theorem putOff_any {w:World} {L:Nat→Prop} {q b:Nat} {vt vp ve:Value} {ps:List (Value × Pt)} {I:Im} (h:ImC w L q b vt vp ve ps I) (id:Int) (h1:1≤id∧id≤7) (hlf:1≤(valB I.brs id).life∧(valB I.brs id).life≤1000000000):Calls Tryz.prog 115 #[.pointer (some ⟨q,0,none⟩),.int .i64 id] w fun e w'=>e=.returned (.tuple #[])∧IOut L w w' q b vt vp ve (putOffI I id):=by
 have hdr:Below w.heap.size w w.drew:=(Below.refl _ _).drew
 have hlk:=(h.under hdr).look id (by unfold I64;omega)
 obtain ⟨w2,hup,hI2,hg2⟩:=(h.under hdr).put (n:=id) (x:=⟨(valB I.brs id).life,false⟩) h1 hlf
 have c1:=h.c1
 obtain ⟨⟨lf,bu⟩,hv⟩:∃ x,valB I.brs id=x:=⟨_,rfl⟩
 have HK2:Hid (Keeps (Own q b vt vp ve) w w2):=(Keeps.of_below hdr).trans (Keeps.of_grown (S:=Own q b vt vp ve) hg2 (fun k hk=>by cases hk;exact .inr (.inl rfl))) (fun x hx=>.inl hx)
 have HI2:=hid hI2
 have HPO:Hid (putOffI I id={ I with brs:=putB I.brs id ⟨lf,false⟩,parts:=I.parts.map (stepP fun p=>fenceP p id (upL (putB I.brs id ⟨lf,false⟩))) }):=by show _=_;unfold putOffI;rw [hv]
 rw [HPO.out]
 rw [hv] at HI2 hlk hup
 simp only [Br.val] at hlk hup
 have hfa:=field93a
 obtain ⟨hid1,hid2⟩:=h1
 clear hI2 hg2 hdr h hlf hv HPO
 generalize putB I.brs id ⟨lf,false⟩=bs at *
 go_enter Tryz.func115,Tryz.ntmps115
 go_wp2_with fail
 go_cut [] from 7 to 19 (fun W=>W=w2)
 case first =>
  go_region_with (fail)
  all_goals
   go_wp2_with fail
   go_meet
   case rel=>rfl
 case rest =>
  subst hcut
  have HU:=hid (up_any HI2.out)
  clear hup hlk c1
  go_wp2_with fail
  refine HU.out.mono ?_
  rintro e W1 ⟨uv,rfl,hil,hin,hb⟩
  have HIL:Hid (∀ wr,Keeps (Own q b vt vp ve) W1 wr→IL wr uv (upL bs)):=fun wr hk=>hil.kept (X:=fun k=>wc.heap.size≤k∧k<W1.heap.size) (fun hn bb off n c e=>⟨hin hn bb off n c e,hil.old hn bb off n c e⟩) (fun k hk2=>hk.block k hk2.2 (fun ho=>by have:=HI2.out.lt ho;omega)) hk.size
  have HI1:=hid (HI2.out.under hb)
  have HKW:Hid (Keeps (Own q b vt vp ve) w W1):=HK2.out.trans (Keeps.of_below (S:=fun _=>False) hb) (fun x hx=>hx.elim)
  have hsz:w.heap.size≤W1.heap.size:=HKW.out.size
  obtain ⟨ua,uc,rfl,_⟩:=hil.shape
  clear hil hin hb HI2 HK2 HU
  obtain ⟨oa,cap,hvp,hcap,hcm,hnn,hat⟩:=row_shape HI1.out.parts
  have hpl:=HI1.out.plen
  simp only at hpl
  rw [← hpl] at hvp hcap hat
  subst hvp
  have c3:=HI1.out.c3
  have HJ:Hid ((({ I with brs:=bs }:Im)).parts=I.parts):=rfl
  obtain ⟨J,hJ⟩:∃ J,J=({ I with brs:=bs }:Im):=⟨_,rfl⟩
  rw [← hJ] at HI1 HJ
  have HJJ:=hid hJ
  clear hJ hpl hcap hcm hnn
  have hf16:I.parts.length≤16:=by have:=HI1.out.ok.few;rw [HJ.out] at this;exact this
  go_wp2_with fail
  go_loopg [27] I.parts.length (fun kx s wr=>∃ k:Nat,k≤I.parts.length∧I.parts.length - k≤kx∧s=.int .i64 (k:Int)∧Hid (LoopP W1 wr L q b vt (.slice oa I.parts.length cap) ve J (fun p=>fenceP p id (upL bs)) k))
  case atStart=>exact ⟨0,Nat.zero_le _,by omega,rfl,LoopP.start HI1.out⟩
  case round =>
   obtain ⟨k,hk,hkx,rfl,HK⟩:=hrel
   by_cases hlt:k<I.parts.length
   ·obtain ⟨g,rfl⟩:=hat (by omega)
    have hltJ:k<J.parts.length:=by rw [HJ.out];exact hlt
    obtain ⟨x,hx,hxc⟩:=HK.out.at_ hltJ
    have HPM:=hid hx
    obtain ⟨a1,c1,a2,c2,a3,c3,a4,c4,rfl,_⟩:=hx.open
    have hrp:RightP J.parts[k]∧J.parts[k].id=(k:Int)+1:=HI1.out.ok.parts k _ (List.getElem?_eq_getElem hltJ)
    have HNX:Hid (∀ W v r,Below wr.heap.size wr W→r=((fun p=>fenceP p id (upL bs))) J.parts[k]→PartM W v r.1→InP (fun j=>wr.heap.size≤j) v r.1→Calls Tryz.prog 117 #[.pointer (some ⟨q,0,none⟩),v,.int .i64 r.2] W fun e w'=>e=.returned (.tuple #[])∧LoopP W1 w' L q b vt (.slice (some ⟨g,0,none⟩) I.parts.length cap) ve J (fun p=>fenceP p id (upL bs)) (k+1)):=fun W v r hb hr hv hX=>HK.out.next hltJ hb hr hv hX (by rw [hr];exact fence_code _ _ _) (fun h0=>by
     rw [hr] at h0
     obtain ⟨j1,j2⟩:=fence_ok hrp.1 h0
     rw [hr]
     exact ⟨j1,by rw [← hrp.2];exact j2⟩)
    have HKK:=hid HK.out.keeps
    clear hrp HK
    generalize J.parts[k]=P at *
    have r0:=hxc 0 (by decide) _ rfl
    have r1:=hxc 1 (by decide) _ rfl
    have r2:=hxc 2 (by decide) _ rfl
    have r3:=hxc 3 (by decide) _ rfl
    have r4:=hxc 4 (by decide) _ rfl
    have r5:=hxc 5 (by decide) _ rfl
    have r6:=hxc 6 (by decide) _ rfl
    have r7:=hxc 7 (by decide) _ rfl
    have r8:=hxc 8 (by decide) _ rfl
    rw [Nat.add_zero] at r0
    have hlt':(k:Int)<(I.parts.length:Int):=by omega
    clear hxc hx
    have HB:=hid (heap_alloc_new wr (.cells (PP P a1 c1 a2 c2 a3 c3 a4 c4) 54))
    have HBW:Hid (Below wr.heap.size wr (wr.alloc (.cells (PP P a1 c1 a2 c2 a3 c3 a4 c4) 54))):=(Below.refl _ _).alloc (Nat.le_refl _) _
    have HDE:=hid ((fence_any (HPM.out.under HBW.out) id (by unfold I64;omega) ((HIL.out wr HKK.out).under HBW.out)))
    go_wp2_with fail
    refine HDE.out.mono ?_
    rintro e W2 ⟨v2,rfl,hv2,hX2,hb2⟩
    have HC:=hid (HNX.out W2 v2 _ (HBW.out.trans (hb2.mono HBW.out.size)) rfl hv2 (hX2.mono (fun j hj=>Nat.le_trans HBW.out.size hj)))
    obtain ⟨z1,d1,z2,d2,z3,d3,z4,d4,rfl,_⟩:=hv2.open
    clear hv2 hX2 hb2 HDE HNX HPM r0 r1 r2 r3 r4 r5 r6 r7 r8 HB HBW
    go_wp2_with fail
    refine HC.out.mono ?_
    rintro e W3 ⟨rfl,hL3⟩
    have HL3:=hid hL3
    clear hL3 HC
    go_wp2_with fail
    go_roundg (I.parts.length - (k+1))
    case measure=>omega
    case rel=>exact ⟨k+1,by omega,Nat.le_refl _,by go_num,HL3.out⟩
   ·have hlt':¬ (k:Int)<(I.parts.length:Int):=by omega
    have HKE:=HK
    clear HK
    go_wp2_with fail
    go_end0
    obtain ⟨⟨L',ps',i1,i2⟩,i3⟩:=HKE.out
    rw [stepK_all _ _ _ (by rw [HJ.out];omega)] at i1
    refine ⟨rfl,L',ps',?_,fun j hj=>(i2 j hj).elim .inl (fun h=>.inr (Nat.le_trans hsz h)),HKW.out.trans i3 (fun x hx=>.inl hx)⟩
    rw [HJJ.out] at i1
    exact i1
theorem IOut.after {L:Nat→Prop} {w W w':World} {q b:Nat} {vt vp ve:Value} {J I:Im} {Z:Nat→Prop} (h:IOut L W w' q b vt vp ve J) (h0:Img w Z q I) (h1:∀ k,Own q b vt vp ve k→Z k) (h2:∀ k,L k→Z k) (hb:Below w.heap.size w W):IAfter Z w w' q J:=by
 obtain ⟨L',ps',i1,i2,i3⟩:=h
 exact ImC.after (L:=L) (b:=b) (vt:=vt) (vp:=vp) (ve:=ve) (ps:=ps') (I:=I) h0 i1 (fun k hk=>.inl (h1 k hk)) (fun k hk=>(i2 k hk).elim (fun h=>.inl (h2 k h)) (fun h=>.inr (Nat.le_trans hb.size h))) ((Keeps.of_below hb).trans i3 (fun x hx=>.inl (h1 x hx)))
theorem val_life {I:Im} (h:ImOk I) {n:Int} (hs:(getB I.brs n).isNone=false):1≤(valB I.brs n).life∧(valB I.brs n).life≤1000000000:=by
 unfold valB
 cases hg:getB I.brs n with
 | none=>rw [hg] at hs;cases hs
 | some y=>exact (h.brs _ (getB_mem hg)).2
theorem refused_zero {I:Im} {r:Rc} {up:Bool} (h:refusedI I r up=0):(1≤r.a∧r.a≤7)∧(getB I.brs r.a).isNone=false∧r.b=(valB I.brs r.a).life∧(valB I.brs r.a).up≠up:=by
 unfold refusedI at h
 split at h
 ·omega
 ·rename_i h1
  split at h
  ·omega
  ·rename_i h2
   split at h
   ·omega
   ·rename_i h3
    split at h
    ·omega
    ·rename_i h4
     refine ⟨?_,by cases hg:getB I.brs r.a with | none=>simp [hg] at h2 | some y=>rfl,by simpa using h3,h4⟩
     simp [upB] at h1
     omega
theorem refused_code (I:Im) (r:Rc) (up:Bool):I64 (refusedI I r up):=by
 unfold refusedI I64
 split
 ·omega
 ·split
  ·omega
  ·split
   ·omega
   ·split <;> omega
theorem kfence_any {w:World} {Z:Nat→Prop} {q:Nat} {I:Im} (hi:Img w Z q I) {v:Value} {r:Rc} (hr:RecM w v r):Calls Tryz.prog 69 #[.pointer (some ⟨q,0,none⟩),v] w fun e w'=>e=.returned (.tuple #[.int .i64 (fenceI I r).2.1,.int .i64 (fenceI I r).2.2])∧IAfter Z w w' q (fenceI I r).1:=by
 obtain ⟨L,b,vt,vp,ve,ps,h,hz1,hz2,hz3⟩:=hi
 have HIMG:Hid (Img w Z q I):=⟨L,b,vt,vp,ve,ps,h,hz1,hz2,hz3⟩
 have HRM:=hid hr
 obtain ⟨⟨lv,rfl,hil⟩,ok,hname⟩:=hr
 obtain ⟨⟨la,lc,rfl,_⟩,_⟩:=hil
 obtain ⟨rk,ra,rb,rc,rd,rn,rt,rl⟩:=r
 simp only at ok hname HRM ⊢
 have oka:=ok.a
 have okb:=ok.b
 have okc:=ok.c
 simp only at oka okb okc
 have hbA:Below w.heap.size w (w.alloc (.cells (RV rk ra rb rc rd rn rt la rl.length lc) 34)):=(Below.refl _ _).alloc (Nat.le_refl _) _
 have HBA:=hid hbA
 have HI:=hid (h.under hbA)
 have HRM1:=hid (HRM.out.under hbA)
 have HIO:Hid (∀ w' J,IOut L (w.alloc (.cells (RV rk ra rb rc rd rn rt la rl.length lc) 34)) w' q b vt vp ve J→IAfter Z w w' q J):=fun w' J hJ=>hJ.after HIMG.out hz1 hz2 hbA
 have HIS:Hid (∀ w',Below (w.alloc (.cells (RV rk ra rb rc rd rn rt la rl.length lc) 34)).heap.size (w.alloc (.cells (RV rk ra rb rc rd rn rt la rl.length lc) 34)) w'→IAfter Z w w' q I):=fun w' hb=>HIMG.out.after (hbA.trans (hb.mono hbA.size))
 have hB:=heap_alloc_new w (.cells (RV rk ra rb rc rd rn rt la rl.length lc) 34)
 have hqlt:q<w.heap.size:=h.lt (.inl rfl)
 have HOW:Hid (∀ k,Own q b vt vp ve k→k<w.heap.size):=fun k hk=>h.lt hk
 have hWs:(w.alloc (.cells (RV rk ra rb rc rd rn rt la rl.length lc) 34)).heap.size=w.heap.size+1:=by simp
 obtain ⟨a0,a1,a2,a3,a4,a5,a6,a7⟩:=cells8 hB
 have HBX:=hid hB
 clear hbA hB h hz1 hz2 hz3 ok
 have HRF:=hid (refused_any HI.out HRM1.out false)
 have HF:Hid (fenceI I ⟨rk,ra,rb,rc,rd,rn,rt,rl⟩=if refusedI I ⟨rk,ra,rb,rc,rd,rn,rt,rl⟩ false≠0 then (I,0,refusedI I ⟨rk,ra,rb,rc,rd,rn,rt,rl⟩ false) else (putOffI I ra,ra,0)):=rfl
 have hcode:=refused_code I ⟨rk,ra,rb,rc,rd,rn,rt,rl⟩ false
 unfold I64 at hcode
 by_cases h0:refusedI I ⟨rk,ra,rb,rc,rd,rn,rt,rl⟩ false=0
 ·rw [if_neg (by simp [h0])] at HF
  obtain ⟨q1,q2,q3,q4⟩:=refused_zero h0
  simp only at q1 q2
  rw [h0] at HRF
  have HP:Hid (∀ V,Below (w.alloc (.cells (RV rk ra rb rc rd rn rt la rl.length lc) 34)).heap.size (w.alloc (.cells (RV rk ra rb rc rd rn rt la rl.length lc) 34)) V→Calls Tryz.prog 115 #[.pointer (some ⟨q,0,none⟩),.int .i64 ra] V fun e w'=>e=.returned (.tuple #[])∧IOut L V w' q b vt vp ve (putOffI I ra)):=fun V hV=>putOff_any (HI.out.under hV) ra q1 (val_life HI.out.ok q2)
  have HUP:Hid (∀ V w' J,Below (w.alloc (.cells (RV rk ra rb rc rd rn rt la rl.length lc) 34)).heap.size (w.alloc (.cells (RV rk ra rb rc rd rn rt la rl.length lc) 34)) V→IOut L V w' q b vt vp ve J→IAfter Z w w' q J):=fun V w' J hV hJ=>HIO.out w' J (by
   obtain ⟨L',ps',i1,i2,i3⟩:=hJ
   exact ⟨L',ps',i1,fun j hj=>(i2 j hj).elim .inl (fun h=>.inr (Nat.le_trans hV.size h)),(Keeps.of_below hV).trans i3 (fun x hx=>.inl hx)⟩)
  rw [HF.out]
  clear h0 q1 q2 q3 q4 hcode
  go_enter Tryz.func69,Tryz.ntmps69
  go_wp2_with fail
  generalize w.alloc (.cells (RV rk ra rb rc rd rn rt la rl.length lc) 34)=W at *
  obtain ⟨x,hx⟩:∃ x,x=w.heap.size:=⟨_,rfl⟩
  rw [← hx] at a0 a1 a2 a3 a4 a5 a6 a7 hWs hqlt HBX HOW ⊢
  clear hx
  refine HRF.out.mono ?_
  rintro e w1 ⟨rfl,hb1⟩
  have b1:=kept_cell hb1 a1
  have HP1:=hid (HP.out w1 hb1)
  have HU1:=hid (fun w' J=>HUP.out w1 w' J hb1)
  have HBX1:=hid ((hb1.block x (by omega)).trans HBX.out)
  clear hb1 HP HUP HRF a0 a1 a2 a3 a4 a5 a6 a7
  go_wp2_with fail
  refine HP1.out.mono ?_
  rintro e w2 ⟨rfl,hO⟩
  have c1:w2.cell? ⟨x,1,none⟩=some (.int .i64 ra):=by
   obtain ⟨_,_,_,_,i3⟩:=hO
   exact cell_blk ((i3.block x (Array.getElem?_eq_some_iff.1 HBX1.out).1 (fun ho=>by have:=HOW.out x ho;omega)).trans HBX1.out) 1 _ rfl
  have HO:=hid (HU1.out w2 _ hO)
  clear hO
  go_wp2_with fail
  go_ret2
  exact ⟨rfl,HO.out⟩
 ·rw [if_pos h0] at HF
  rw [HF.out]
  generalize refusedI I ⟨rk,ra,rb,rc,rd,rn,rt,rl⟩ false=R at *
  have h0':(R != 0)=true:=by simp [h0]
  go_enter Tryz.func69,Tryz.ntmps69
  go_wp2_with fail
  generalize w.alloc (.cells (RV rk ra rb rc rd rn rt la rl.length lc) 34)=W at *
  obtain ⟨x,hx⟩:∃ x,x=w.heap.size:=⟨_,rfl⟩
  rw [← hx] at a0 a1 a2 a3 a4 a5 a6 a7 hWs hqlt HBX HOW ⊢
  clear hx
  refine HRF.out.mono ?_
  rintro e w1 ⟨rfl,hb1⟩
  have HO:=hid (HIS.out w1 hb1)
  clear hb1
  go_wp2_with fail
  go_ret2
  exact ⟨rfl,HO.out⟩
section
variable {w w3:World} {L:Nat→Prop} {q b:Nat} {vt vp ve v2:Value} {ps:List (Value × Pt)} {I:Im}
theorem ImC.swapE (h:ImC w L q b vt vp ve ps I) {l2:List Int} (hs:w.heap.size≤w3.heap.size) (hoth:∀ k,k<w.heap.size→k≠q→ve.ownBlock≠some k→w3.heap[k]?=w.heap[k]?)
  (hq:w3.heap[q]?=some (.cells #[.int .i64 I.applied,.map (some b),vt,vp,v2] 70)) (hrow:w3.ownsRow 0 3 1 v2 l2.length (intsV l2)) (hnew:∀ k,v2.ownBlock=some k→ve.ownBlock=some k∨w.heap.size≤k) (hok:ImOk { I with eps:=l2 }):ImC w3 L q b vt vp v2 ps { I with eps:=l2 }:=by
 refine ⟨hq,?_,row_kept h.tops (fun k hk=>hoth k (row_lt h.tops hk) (fun e=>h.ne_q.1 (by rw [← e];exact hk)) (h.ne_rows.2.1 hk)),row_kept h.parts (fun k hk=>hoth k (row_lt h.parts hk) (fun e=>h.ne_q.2.1 (by rw [← e];exact hk)) (h.ne_rows.2.2 hk)),hrow,fun x hx=>?_,h.abs,fun k hk=>⟨Nat.lt_of_lt_of_le (h.lists k hk).1 hs,?_⟩,hok⟩
 ·obtain ⟨es,clock,hm,r⟩:=h.bmap
  exact ⟨es,clock,(hoth b h.bmap.lt (fun e=>h.ne_qb e.symm) h.ne_b.2.2).trans hm,r⟩
 ·obtain ⟨h1,h2⟩:=h.each x hx
  exact ⟨h1.kept h2 (fun k hk=>hoth k (h.lists k hk).1 (fun e=>(h.lists k hk).2 (.inl e)) (fun e=>(h.lists k hk).2 (.inr (.inr (.inr (.inr e)))))) hs,h2⟩
 ·rintro (e | e | e | e | e)
  ·exact (h.lists k hk).2 (.inl e)
  ·exact (h.lists k hk).2 (.inr (.inl e))
  ·exact (h.lists k hk).2 (.inr (.inr (.inl e)))
  ·exact (h.lists k hk).2 (.inr (.inr (.inr (.inl e))))
  ·rcases hnew k e with e | e
   ·exact (h.lists k hk).2 (.inr (.inr (.inr (.inr e))))
   ·have:=(h.lists k hk).1;omega
theorem ImC.swapT (h:ImC w L q b vt vp ve ps I) {l2:List Tp} (hs:w.heap.size≤w3.heap.size) (hoth:∀ k,k<w.heap.size→k≠q→vt.ownBlock≠some k→w3.heap[k]?=w.heap[k]?)
  (hq:w3.heap[q]?=some (.cells #[.int .i64 I.applied,.map (some b),v2,vp,ve] 70)) (hrow:w3.ownsRow 0 96 3 v2 l2.length (flatT l2)) (hnew:∀ k,v2.ownBlock=some k→vt.ownBlock=some k∨w.heap.size≤k) (hok:ImOk { I with tops:=l2 }):ImC w3 L q b v2 vp ve ps { I with tops:=l2 }:=by
 refine ⟨hq,?_,hrow,row_kept h.parts (fun k hk=>hoth k (row_lt h.parts hk) (fun e=>h.ne_q.2.1 (by rw [← e];exact hk)) (fun e=>h.ne_rows.1 e hk)),row_kept h.eps (fun k hk=>hoth k (row_lt h.eps hk) (fun e=>h.ne_q.2.2 (by rw [← e];exact hk)) (fun e=>h.ne_rows.2.1 e hk)),fun x hx=>?_,h.abs,fun k hk=>⟨Nat.lt_of_lt_of_le (h.lists k hk).1 hs,?_⟩,hok⟩
 ·obtain ⟨es,clock,hm,r⟩:=h.bmap
  exact ⟨es,clock,(hoth b h.bmap.lt (fun e=>h.ne_qb e.symm) h.ne_b.1).trans hm,r⟩
 ·obtain ⟨h1,h2⟩:=h.each x hx
  exact ⟨h1.kept h2 (fun k hk=>hoth k (h.lists k hk).1 (fun e=>(h.lists k hk).2 (.inl e)) (fun e=>(h.lists k hk).2 (.inr (.inr (.inl e))))) hs,h2⟩
 ·rintro (e | e | e | e | e)
  ·exact (h.lists k hk).2 (.inl e)
  ·exact (h.lists k hk).2 (.inr (.inl e))
  ·rcases hnew k e with e | e
   ·exact (h.lists k hk).2 (.inr (.inr (.inl e)))
   ·have:=(h.lists k hk).1;omega
  ·exact (h.lists k hk).2 (.inr (.inr (.inr (.inl e))))
  ·exact (h.lists k hk).2 (.inr (.inr (.inr (.inr e))))
theorem ImC.swapP (h:ImC w L q b vt vp ve ps I) {X:Nat→Prop} {v:Value} {p:Pt} (hs:w.heap.size≤w3.heap.size) (hoth:∀ k,k<w.heap.size→k≠q→vp.ownBlock≠some k→w3.heap[k]?=w.heap[k]?)
  (hq:w3.heap[q]?=some (.cells #[.int .i64 I.applied,.map (some b),vt,v2,ve] 70)) (hrow:w3.ownsRow 0 54 9 v2 (ps.length+1) (flatP (ps++[(v,p)]))) (hnew:∀ k,v2.ownBlock=some k→vp.ownBlock=some k∨w.heap.size≤k)
  (hpm:PartM w3 v p) (hX:InP X v p) (hXl:∀ k,X k→k<w3.heap.size∧w.heap.size≤k∧v2.ownBlock≠some k) (hok:ImOk { I with parts:=I.parts++[p] }):ImC w3 (fun k=>L k∨X k) q b vt v2 ve (ps++[(v,p)]) { I with parts:=I.parts++[p] }:=by
 refine ⟨hq,?_,row_kept h.tops (fun k hk=>hoth k (row_lt h.tops hk) (fun e=>h.ne_q.1 (by rw [← e];exact hk)) (h.ne_rows.1 hk)),by rw [List.length_append];exact hrow,row_kept h.eps (fun k hk=>hoth k (row_lt h.eps hk) (fun e=>h.ne_q.2.2 (by rw [← e];exact hk)) (fun e=>h.ne_rows.2.2 e hk)),fun x hx=>?_,?_,fun k hk=>?_,hok⟩
 ·obtain ⟨es,clock,hm,r⟩:=h.bmap
  exact ⟨es,clock,(hoth b h.bmap.lt (fun e=>h.ne_qb e.symm) h.ne_b.2.1).trans hm,r⟩
 ·rcases List.mem_append.1 hx with hx | hx
  ·obtain ⟨h1,h2⟩:=h.each x hx
   exact ⟨h1.kept h2 (fun k hk=>hoth k (h.lists k hk).1 (fun e=>(h.lists k hk).2 (.inl e)) (fun e=>(h.lists k hk).2 (.inr (.inr (.inr (.inl e)))))) hs,h2.mono fun k hk=>.inl hk⟩
  ·simp at hx
   subst hx
   exact ⟨hpm,hX.mono fun k hk=>.inr hk⟩
 ·simp [h.abs]
 ·rcases hk with hk | hk
  ·refine ⟨Nat.lt_of_lt_of_le (h.lists k hk).1 hs,?_⟩
   rintro (e | e | e | e | e)
   ·exact (h.lists k hk).2 (.inl e)
   ·exact (h.lists k hk).2 (.inr (.inl e))
   ·exact (h.lists k hk).2 (.inr (.inr (.inl e)))
   ·rcases hnew k e with e | e
    ·exact (h.lists k hk).2 (.inr (.inr (.inr (.inl e))))
    ·have:=(h.lists k hk).1;omega
   ·exact (h.lists k hk).2 (.inr (.inr (.inr (.inr e))))
  ·obtain ⟨x1,x2,x3⟩:=hXl k hk
   refine ⟨x1,?_⟩
   rintro (e | e | e | e | e)
   ·have:=h.lt (.inl e);omega
   ·have:=h.lt (.inr (.inl e));omega
   ·have:=h.lt (.inr (.inr (.inl e)));omega
   ·exact x3 e
   ·have:=h.lt (.inr (.inr (.inr (.inr e))));omega
end
theorem intsV_set (l:List Int) (i:Nat) (x:Int):intsV (l.set i x)=(intsV l).set i (.int .i64 x):=by simp [intsV,List.map_set]
theorem ImC.setE {w:World} {L:Nat→Prop} {q b:Nat} {vt vp:Value} {g n cap:Nat} {ps:List (Value × Pt)} {I:Im} (h:ImC w L q b vt vp (.slice (some ⟨g,0,none⟩) n cap) ps I) (i:Nat) (hi:i<I.eps.length) (x:Int) (hx:0≤x∧x≤1000000000) :
  ImC (w.setCell ⟨g,i,none⟩ (.int .i64 x)) L q b vt vp (.slice (some ⟨g,0,none⟩) n cap) ps { I with eps:=I.eps.set i x }:=by
 have hgq:q≠g:=fun e=>h.ne_q.2.2 (by rw [e];rfl)
 refine h.swapE (by simp) (fun k hk hkq hkg=>Below.heap_setCell _ _ _ _ (fun e=>hkg (by rw [e];rfl))) ((Below.heap_setCell _ _ _ _ hgq).trans h.cells) ?_ (fun k hk=>.inl hk) ⟨h.ok.keys,h.ok.brs,h.ok.parts,h.ok.few,h.ok.tops,h.ok.name,h.ok.nums,by simpa using h.ok.eps,fun y hy=>?_,h.ok.app⟩
 ·obtain ⟨h1,⟨e,h0⟩ | ⟨g',cap',cur,e,hB,hg,hn,hc,hs,ht⟩⟩:=h.eps
  ·cases e
  ·cases e
   refine ⟨by simp [intsV],.inr ⟨g,cap,cur.setIfInBounds i (.int .i64 x),by simp,hB,set_box hg,by simpa using hn,hc,by simpa using hs,?_⟩⟩
   rw [intsV_set,← ht,List.length_set]
   simp only [Nat.mul_one,Array.toList_setIfInBounds]
   rw [List.take_set]
 ·rcases List.mem_or_eq_of_mem_set hy with h1 | rfl
  ·exact h.ok.epv y h1
  ·exact hx
theorem ImC.ep {w:World} {L:Nat→Prop} {q b:Nat} {vt vp:Value} {g n cap:Nat} {ps:List (Value × Pt)} {I:Im} (h:ImC w L q b vt vp (.slice (some ⟨g,0,none⟩) n cap) ps I) (i:Nat) (hi:i<I.eps.length):w.cell? ⟨g,i,none⟩=some (.int .i64 I.eps[i])∧w.frozen? ⟨g,i,none⟩=false:=by
 have hc:=World.ownsRow.cells h.eps (g:=g) rfl i (.int .i64 I.eps[i]) (by simp [intsV,hi])
 rw [add_at,Nat.zero_add] at hc
 obtain ⟨cur,hcur⟩:=row_blk h.eps (k:=g) rfl
 exact ⟨hc,frz_blk hcur i⟩
end Go.Proofs.YtcffomhcmilcpaaGreat
