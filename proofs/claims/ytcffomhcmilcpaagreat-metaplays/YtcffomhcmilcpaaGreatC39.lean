/- Begin: the document's. -/
import Derived.Test.YtcffomhcmilcpaaGreatC38
set_option maxRecDepth 100000
set_option maxHeartbeats 20000000
set_option linter.unusedVariables false
set_option linter.unusedSimpArgs false
namespace Go.Proofs.YtcffomhcmilcpaaGreat
open Go.RowKit Go.Maps
theorem rcopied_own {w:World} {v:Value} {l:List Int} (h:IL w v l):Calls Tryz.prog 132 #[v] w fun e w'=>∃ v',e=.returned v'∧w'.ownsRow w.heap.size 3 1 v' l.length (vals l)∧Below w.heap.size w w':=by
 obtain ⟨i0,hi0,hz0,hz1,hz2⟩:=info3
 have HI:=hid h
 obtain ⟨⟨a,cap,rfl,hcap,hcm,hnn,hat⟩,hok,hfew⟩:=h
 have HROW:Hid ((w.alloc (.cells #[] 3)).ownsRow w.heap.size 3 1 (.slice (some ⟨w.heap.size,0,none⟩) 0 0) 0 []):=⟨rfl,.inr ⟨w.heap.size,0,#[],rfl,Nat.le_refl _,heap_alloc_new _ _,Nat.le_refl _,Nat.zero_le _,rfl,rfl⟩⟩
 have hb0:Below w.heap.size w (w.alloc (.cells #[] 3)):=(Below.refl _ _).alloc (Nat.le_refl _) _
 have HB0:=hid hb0
 cases a with
 | none =>
  have h0:=hnn rfl
  subst h0
  have hl:l=[]:=List.eq_nil_of_length_eq_zero (by omega)
  subst hl
  clear hat hok hnn hcap hcm hb0
  go_enter Tryz.func132,Tryz.ntmps132
  go_wp2_with (at_builtin;refine wpList_append_own_none rfl _ _ 23 rfl w.heap.size 3 i0 1 Tryz.underlying23 hi0 _ 0 [] rfl HROW.out rfl ?_)
  go_ret
  exact ⟨_,rfl,HROW.out,HB0.out⟩
 | some ad =>
  have HNW:Hid (∀ j u,(vals l)[j]?=some u→(w.alloc (.cells #[] 3)).cell? (ad.add j)=some u):=(HI.out.under hb0).vcells.2
  have HON:=hid (vals_one l)
  have HLn:Hid ((vals l).length=l.length*1):=by show _=_;rw [vals_length];omega
  clear hat hok hnn hcap hcm hb0
  go_enter Tryz.func132,Tryz.ntmps132
  go_wp2_with (at_builtin;refine wpList_append_own_at _ rfl _ _ 23 rfl w.heap.size 3 i0 _ 1 8 Tryz.underlying23 hi0 hz0 hz1 hz2 rfl (by decide) _ 0 [] rfl HROW.out ad l.length cap (vals l) rfl HLn.out HNW.out HON.out (by unfold maxLen;omega) (by omega) (by simp) ?_;intro v' w2 hown2 hg2 _ hat)
  go_ret
  rw [Nat.zero_add,List.nil_append] at hown2
  exact ⟨v',rfl,hown2,HB0.out.grown hg2 HB0.out.size (fun j hj=>by cases hj;exact Nat.le_refl _)⟩
theorem vals_append (l m:List Int):vals (l++m)=vals l++vals m:=by simp [vals]
theorem rbegin_any {w:World} {v m u:Value} {p:Pt} {t up:List Int} (h:PartM w v p) (hm:IL w m t) (hu:IL w u up) :
  Calls Tryz.prog 80 #[v,m,u] w fun e w'=>Res (fun b=>w.heap.size≤b) w (beginP p t up) e w':=by
 obtain ⟨i9,hi9,hz0,hz1,hz2⟩:=info3
 obtain ⟨id,ld,ep,vr,isr,reps,add,rem,mn⟩:=p
 obtain ⟨a1,c1,a2,c2,a3,c3,a4,c4,rfl,q1,q2,q3,q4,i0,i1,i2,i3,i4⟩:=h.open
 simp only at q1 q2 q3 q4 i0 i1 i2 i3 i4 ⊢
 have Q1:=hid q1
 have Q2:=hid q2
 have Q3:=hid q3
 have Q4:=hid q4
 clear h q1 q2 q3 q4
 obtain ⟨ua,uc,rfl,_⟩:=hu.shape
 obtain ⟨ma,mc,rfl,_⟩:=hm.shape
 have QU:=hid hu
 have QM:=hid hm
 have HT0:=hid (two_new w #[.int .i64 id,.int .i64 ld,.int .i64 ep,.int .i64 vr,.slice a1 isr.length c1,.slice a2 reps.length c2,.slice a3 add.length c3,.slice a4 rem.length c4,.int .i64 mn] #[.int .i64 0,.int .i64 0,.int .i64 0,.int .i64 0,.slice none 0 0,.slice none 0 0,.slice none 0 0,.slice none 0 0,.int .i64 0])
 have G13:Hid (∀ W,Below w.heap.size w W→Calls Tryz.prog 106 #[.agg #[.int .i64 id,.int .i64 ld,.int .i64 ep,.int .i64 vr,.slice a1 isr.length c1,.slice a2 reps.length c2,.slice a3 add.length c3,.slice a4 rem.length c4,.int .i64 mn]] W fun e w'=>e=.returned (.bool (rightB ⟨id,ld,ep,vr,isr,reps,add,rem,mn⟩))∧Below W.heap.size W w'):=fun W hb=>rright_any ⟨_,_,_,_,rfl,Q1.out.under hb,Q2.out.under hb,Q3.out.under hb,Q4.out.under hb,i0,i1,i2,i3,i4⟩
 have G60:Hid (∀ W,Below w.heap.size w W→Calls Tryz.prog 125 #[.agg #[.int .i64 id,.int .i64 ld,.int .i64 ep,.int .i64 vr,.slice a1 isr.length c1,.slice a2 reps.length c2,.slice a3 add.length c3,.slice a4 rem.length c4,.int .i64 mn]] W fun e w'=>∃ v',e=.returned v'∧PartM w' v' ⟨id,ld,ep,vr,isr,reps,add,rem,mn⟩∧InP (fun b=>W.heap.size≤b) v' ⟨id,ld,ep,vr,isr,reps,add,rem,mn⟩∧Below W.heap.size W w'):=fun W hb=>rclone_any ⟨_,_,_,_,rfl,Q1.out.under hb,Q2.out.under hb,Q3.out.under hb,Q4.out.under hb,i0,i1,i2,i3,i4⟩
 have HE0:Hid (beginP ⟨id,ld,ep,vr,isr,reps,add,rem,mn⟩ t up=if !rightB ⟨id,ld,ep,vr,isr,reps,add,rem,mn⟩ || !mayB t then (Pt.zero,1) else beginP ⟨id,ld,ep,vr,isr,reps,add,rem,mn⟩ t up):=by
  show _=_
  unfold beginP
  by_cases e:(!rightB ⟨id,ld,ep,vr,isr,reps,add,rem,mn⟩ || !mayB t)=true
  ·rw [if_pos e,if_pos e]
  ·rw [if_neg e,if_neg e]
 have HE:Hid (rightB ⟨id,ld,ep,vr,isr,reps,add,rem,mn⟩=true→beginP ⟨id,ld,ep,vr,isr,reps,add,rem,mn⟩ t up=if !mayB t then (Pt.zero,1) else if movingB ⟨id,ld,ep,vr,isr,reps,add,rem,mn⟩ then (Pt.zero,19) else if !(outL t reps).all (hasB up) then (Pt.zero,8) else if reps=t then (⟨id,ld,ep,vr,isr,reps,add,rem,mn⟩,0) else verP ⟨id,ld,ep,vr,isr,t++outL reps t,outL t reps,outL reps t,mn⟩):=fun h1=>begin_doc h1 t up
 have HMB:Hid (mayB t=(upB t.length 5 && idsB t)):=rfl
 have HBD:Hid (rightB ⟨id,ld,ep,vr,isr,reps,add,rem,mn⟩=true→(1≤ep∧ep≤1000000000)∧(1≤vr∧vr≤1000000000)):=fun e=>⟨(rightB_iff.1 e).epoch,(rightB_iff.1 e).ver⟩
 have HM:Hid (movingB ⟨id,ld,ep,vr,isr,reps,add,rem,mn⟩=decide (0<add.length+rem.length)):=moving_doc _
 have hw1:IntKind.i64.wrap ((add.length:Int)+(rem.length:Int))=(add.length:Int)+(rem.length:Int):=by
  have:=Q3.out.few
  have:=Q4.out.few
  have h1:-9223372036854775808≤(add.length:Int)+(rem.length:Int):=by omega
  have h2:(add.length:Int)+(rem.length:Int)≤9223372036854775807:=by omega
  exact IntWalk.i64_in _ ⟨h1,h2⟩
 have HRF:Hid ((outL reps t).length≤17592186044415):=Nat.le_trans (len_outL _ _) Q2.out.few
 have HOKN:Hid (∀ x∈t++outL reps t,I64 x):=fun x hx=>by
  rcases List.mem_append.1 hx with h | h
  ·exact QM.out.ok x h
  ·exact Q2.out.ok x (mem_outL.1 h).1
 have HNL:Hid ((t++outL reps t).length=t.length+(outL reps t).length):=List.length_append
 have HNV:Hid (vals (t++outL reps t)=vals t++vals (outL reps t)):=vals_append _ _
 have HFR:Hid (rightB ⟨id,ld,ep,vr,isr,reps,add,rem,mn⟩=true→reps.length≤7):=fun e=>ids_len (rightB_iff.1 e).reps
 have HRL:Hid ((outL reps t).length≤reps.length):=len_outL _ _
 have G40:Hid (∀ W,Below w.heap.size w W→Calls Tryz.prog 128 #[.slice ma t.length mc] W fun e w'=>e=.returned (.bool (idsB t))∧Below W.heap.size W w'):=fun W hb=>rids_any (QM.out.under hb)
 have G63:Hid (∀ W x2 y2,Below w.heap.size w W→IL W (.slice x2 reps.length y2) reps→Calls Tryz.prog 130 #[.slice ma t.length mc,.slice x2 reps.length y2] W fun e w'=>∃ ra rc,e=.returned (.slice ra (outL t reps).length rc)∧IL w' (.slice ra (outL t reps).length rc) (outL t reps)∧In (fun b=>W.heap.size≤b) (.slice ra (outL t reps).length rc) (outL t reps)∧Below W.heap.size W w'):=fun W x2 y2 hb h1=>rout_sl (QM.out.under hb) h1
 have HQ2:Hid (∀ W,Below w.heap.size w W→IL W (.slice a2 reps.length c2) reps):=fun W hb=>Q2.out.under hb
 have G63b:Hid (∀ W ra rc,Below w.heap.size w W→IL W (.slice ra (outL t reps).length rc) (outL t reps)→Calls Tryz.prog 130 #[.slice ra (outL t reps).length rc,.slice ua up.length uc] W fun e w'=>∃ sa sc,e=.returned (.slice sa (outL (outL t reps) up).length sc)∧Below W.heap.size W w'):=fun W ra rc hb h1=>(rout_sl h1 (QU.out.under hb)).mono fun e w' ⟨sa,sc,e1,e2,e3,e4⟩=>⟨sa,sc,e1,e4⟩
 have G63c:Hid (∀ W x2 y2,Below w.heap.size w W→IL W (.slice x2 reps.length y2) reps→Calls Tryz.prog 130 #[.slice x2 reps.length y2,.slice ma t.length mc] W fun e w'=>∃ ra rc,e=.returned (.slice ra (outL reps t).length rc)∧IL w' (.slice ra (outL reps t).length rc) (outL reps t)∧In (fun b=>W.heap.size≤b) (.slice ra (outL reps t).length rc) (outL reps t)∧Below W.heap.size W w'):=fun W x2 y2 hb h1=>rout_sl h1 (QM.out.under hb)
 have G36:Hid (∀ W x2 y2,Below w.heap.size w W→IL W (.slice x2 reps.length y2) reps→Calls Tryz.prog 85 #[.slice ma t.length mc,.slice x2 reps.length y2] W fun e w'=>e=.returned (.bool (decide (t=reps)))∧Below W.heap.size W w'):=fun W x2 y2 hb h1=>rsame_any (QM.out.under hb) h1
 have G65:Hid (∀ W,Below w.heap.size w W→Calls Tryz.prog 132 #[.slice ma t.length mc] W fun e w'=>∃ v',e=.returned v'∧w'.ownsRow W.heap.size 3 1 v' t.length (vals t)∧Below W.heap.size W w'):=fun W hb=>rcopied_own (QM.out.under hb)
 have HZ:=hid (out_len (outL t reps) up)
 have HSM:Hid (decide (t=reps)=decide (reps=t)):=by show _=_;congr 1;exact propext eq_comm
 have HSE:Hid ((if reps=t then (⟨id,ld,ep,vr,isr,reps,add,rem,mn⟩,0) else verP ⟨id,ld,ep,vr,isr,t++outL reps t,outL t reps,outL reps t,mn⟩)=if decide (t=reps)=true then (⟨id,ld,ep,vr,isr,reps,add,rem,mn⟩,(0:Int)) else verP ⟨id,ld,ep,vr,isr,t++outL reps t,outL t reps,outL reps t,mn⟩):=by show _=_;rw [HSM.out];simp
 rw [HSE.out] at HE
 clear HSM HSE
 generalize beginP ⟨id,ld,ep,vr,isr,reps,add,rem,mn⟩ t up=r at *
 generalize rightB ⟨id,ld,ep,vr,isr,reps,add,rem,mn⟩=B1 at *
 generalize mayB t=BY at *
 generalize movingB ⟨id,ld,ep,vr,isr,reps,add,rem,mn⟩=BM at *
 generalize idsB t=B2 at *
 generalize (outL t reps).all (hasB up)=B5 at *
 generalize decide (t=reps)=B6 at *
 generalize outL (outL t reps) up=X at *
 generalize t++outL reps t=N at *
 generalize outL t reps=A at *
 generalize outL reps t=R at *
 generalize vals t=VT at *
 clear i0 i1 i2 i3 i4 Q1 Q2 Q3 Q4 QU hu QM hm
 go_enter Tryz.func80,Tryz.ntmps80
 go_wp2_with fail
 generalize (w.alloc (.cells #[.int .i64 id,.int .i64 ld,.int .i64 ep,.int .i64 vr,.slice a1 isr.length c1,.slice a2 reps.length c2,.slice a3 add.length c3,.slice a4 rem.length c4,.int .i64 mn] 54)).alloc (.cells #[.int .i64 0,.int .i64 0,.int .i64 0,.int .i64 0,.slice none 0 0,.slice none 0 0,.slice none 0 0,.slice none 0 0,.int .i64 0] 54)=W0 at *
 refine (G13.out _ HT0.out.b).mono ?_
 rintro e W1 ⟨rfl,hb⟩
 have HT1:=hid (HT0.out.next hb)
 clear hb
 obtain ⟨k0,k1,k2,k3,k4,k5,k6,k7,k8⟩:=cells9 HT1.out.x
 obtain ⟨z0,z1,z2,z3,z4,z5,z6,z7,z8⟩:=cells9 HT1.out.z
 have fx:=frz_blk HT1.out.x
 have fz:=frz_blk HT1.out.z
 go_wp2_with fail
 refine (G40.out _ HT1.out.b).mono ?_
 rintro e V2 ⟨rfl,hb⟩
 have HT2:=hid (HT1.out.next hb)
 clear hb HT1 k0 k1 k2 k3 k4 k5 k6 k7 k8 z0 z1 z2 z3 z4 z5 z6 z7 z8 fx fz
 obtain ⟨k0,k1,k2,k3,k4,k5,k6,k7,k8⟩:=cells9 HT2.out.x
 obtain ⟨z0,z1,z2,z3,z4,z5,z6,z7,z8⟩:=cells9 HT2.out.z
 have fx:=frz_blk HT2.out.x
 have fz:=frz_blk HT2.out.z
 cases B1
 ·have HR:Hid (r=(Pt.zero,1)):=by show _=_;rw [HE0.out];simp
  go_wp2_with fail
  exact leaf9 HT2.out rfl Tryz.results80 (n:=.int .i64 1) rfl rfl rfl fun W9 HT9 hsz9 HOFF=>(by rw [HR.out];exact res_err _ HT9.out.b)
 obtain ⟨hep,hvr⟩:=HBD.out rfl
 have HE2:=hid (HE.out rfl)
 have HF7:=hid (HFR.out rfl)
 clear HE HE0 HBD HFR
 cases B2
 ·have HR:Hid (r=(Pt.zero,1)):=by show _=_;rw [HE2.out,HMB.out];simp
  go_wp2_with fail
  exact leaf9 HT2.out rfl Tryz.results80 (n:=.int .i64 1) rfl rfl rfl fun W9 HT9 hsz9 HOFF=>(by rw [HR.out];exact res_err _ HT9.out.b)
 by_cases h1:(t.length:Int)<1
 ·have HR:Hid (r=(Pt.zero,1)):=by
   show _=_
   have:upB (t.length:Int) 5=false:=by simp [upB];omega
   rw [HE2.out,HMB.out,this];simp
  have h1n:t.length<1:=by omega
  have h1z:t.length=0:=by omega
  go_wp2_with fail
  exact leaf9 HT2.out rfl Tryz.results80 (n:=.int .i64 1) rfl rfl rfl fun W9 HT9 hsz9 HOFF=>(by rw [HR.out];exact res_err _ HT9.out.b)
 by_cases h2:(5:Int)<(t.length:Int)
 ·have HR:Hid (r=(Pt.zero,1)):=by
   show _=_
   have:upB (t.length:Int) 5=false:=by simp [upB];omega
   rw [HE2.out,HMB.out,this];simp
  have h1n:¬ t.length<1:=by omega
  have h1z:¬ t.length=0:=by omega
  have h2n:5<t.length:=by omega
  go_wp2_with fail
  exact leaf9 HT2.out rfl Tryz.results80 (n:=.int .i64 1) rfl rfl rfl fun W9 HT9 hsz9 HOFF=>(by rw [HR.out];exact res_err _ HT9.out.b)
 have HE3:=hid HE2.out
 have HU5:Hid (upB (t.length:Int) 5=true):=upB_iff.2 (by omega)
 have h1n:¬ t.length<1:=by omega
 have h1z:¬ t.length=0:=by omega
 have h2n:¬ 5<t.length:=by omega
 rw [HMB.out,HU5.out] at HE3
 simp only [Bool.and_self,Bool.not_true,Bool.false_eq_true,if_false] at HE3
 clear HE2 HMB HU5
 by_cases hm:(0:Int)<(add.length:Int)+(rem.length:Int)
 ·have HR:Hid (r=(Pt.zero,19)):=by
   show _=_
   have:BM=true:=by rw [HM.out];exact decide_eq_true (by omega)
   rw [HE3.out,this];simp
  go_wp2_with fail
  exact leaf9 HT2.out rfl Tryz.results80 (n:=.int .i64 19) rfl rfl rfl fun W9 HT9 hsz9 HOFF=>(by rw [HR.out];exact res_err _ HT9.out.b)
 have HBM:Hid (BM=false):=by show _=_;rw [HM.out];exact decide_eq_false (by omega)
 rw [HBM.out] at HE3
 simp only [Bool.false_eq_true,if_false] at HE3
 clear HM HBM
 go_wp2_with fail
 refine (G63.out _ _ _ HT2.out.b (HQ2.out _ HT2.out.b)).mono ?_
 rintro e V3 ⟨da,dc,rfl,hY,_,hb⟩
 have HY:=hid hY
 clear hY
 have HT3:=hid (HT2.out.next hb)
 clear hb HT2 k0 k1 k2 k3 k4 k5 k6 k7 k8 z0 z1 z2 z3 z4 z5 z6 z7 z8 fx fz
 obtain ⟨k0,k1,k2,k3,k4,k5,k6,k7,k8⟩:=cells9 HT3.out.x
 obtain ⟨z0,z1,z2,z3,z4,z5,z6,z7,z8⟩:=cells9 HT3.out.z
 have fx:=frz_blk HT3.out.x
 have fz:=frz_blk HT3.out.z
 go_wp2_with fail
 refine (G63b.out _ _ _ HT3.out.b HY.out).mono ?_
 rintro e V4 ⟨sa,sc,rfl,hb⟩
 have HT4:=hid (HT3.out.next hb)
 clear hb HT3 k0 k1 k2 k3 k4 k5 k6 k7 k8 z0 z1 z2 z3 z4 z5 z6 z7 z8 fx fz
 obtain ⟨k0,k1,k2,k3,k4,k5,k6,k7,k8⟩:=cells9 HT4.out.x
 obtain ⟨z0,z1,z2,z3,z4,z5,z6,z7,z8⟩:=cells9 HT4.out.z
 have fx:=frz_blk HT4.out.x
 have fz:=frz_blk HT4.out.z
 cases B5
 ·have HR:Hid (r=(Pt.zero,8)):=by show _=_;rw [HE3.out];simp
  have hX:0<X.length:=by have:=of_decide_eq_false HZ.out;omega
  go_wp2_with fail
  exact leaf9 HT4.out rfl Tryz.results80 (n:=.int .i64 8) rfl rfl rfl fun W9 HT9 hsz9 HOFF=>(by rw [HR.out];exact res_err _ HT9.out.b)
 have HE4:Hid (r=if B6=true then (⟨id,ld,ep,vr,isr,reps,add,rem,mn⟩,0) else verP ⟨id,ld,ep,vr,isr,N,A,R,mn⟩):=by show _=_;rw [HE3.out];simp
 have hX2:¬ 0<X.length:=by have:=of_decide_eq_true HZ.out;omega
 clear HZ HE3 HY
 have HT1:=HT4
 clear HT4
 go_wp2_with fail
 refine (G60.out _ HT1.out.b).mono ?_
 rintro e W2 ⟨v',rfl,h1,h2,hb⟩
 have h2':=h2.mono (Y:=fun b=>w.heap.size+2≤b) fun b hx=>Nat.le_trans HT1.out.s hx
 obtain ⟨x1,y1,x2,y2,x3,y3,x4,y4,rfl,q1,q2,q3,q4,ii⟩:=h1.open
 obtain ⟨n1,n2,n3,n4⟩:=h2' _ _ _ _ _ _ _ _ _ rfl
 simp only at q1 q2 q3 q4 n1 n2 n3 n4 ii
 have HT2:=hid (HT1.out.next hb)
 have LN:=hid (And.intro n1 (And.intro n2 (And.intro n3 n4)))
 have LB:Hid (IA w W2 (.slice x1 isr.length y1) isr∧IA w W2 (.slice x2 reps.length y2) reps∧IA w W2 (.slice x3 add.length y3) add∧IA w W2 (.slice x4 rem.length y4) rem):=⟨⟨q1,n1.mono fun b hx=>.inr hx⟩,⟨q2,n2.mono fun b hx=>.inr hx⟩,⟨q3,n3.mono fun b hx=>.inr hx⟩,⟨q4,n4.mono fun b hx=>.inr hx⟩⟩
 have HI:=hid ii
 clear q1 q2 q3 q4 n1 n2 n3 n4 ii h1 h2 h2' hb k0 k1 k2 k3 k4 k5 k6 k7 k8 z0 z1 z2 z3 z4 z5 z6 z7 z8 fx fz
 obtain ⟨k0,k1,k2,k3,k4,k5,k6,k7,k8⟩:=cells9 HT2.out.x
 obtain ⟨z0,z1,z2,z3,z4,z5,z6,z7,z8⟩:=cells9 HT2.out.z
 have fx:=frz_blk HT2.out.x
 have fz:=frz_blk HT2.out.z
 go_upto_region 10 with fail
 have HT3:=hid (nine_x HT2.out rfl (.int .i64 id) (.int .i64 ld) (.int .i64 ep) (.int .i64 vr) (.slice x1 isr.length y1) (.slice x2 reps.length y2) (.slice x3 add.length y3) (.slice x4 rem.length y4) (.int .i64 mn))
 have LA:=hid (And.intro (LB.out.1.nine (.int .i64 id) (.int .i64 ld) (.int .i64 ep) (.int .i64 vr) (.slice x1 isr.length y1) (.slice x2 reps.length y2) (.slice x3 add.length y3) (.slice x4 rem.length y4) (.int .i64 mn)) (And.intro (LB.out.2.1.nine (.int .i64 id) (.int .i64 ld) (.int .i64 ep) (.int .i64 vr) (.slice x1 isr.length y1) (.slice x2 reps.length y2) (.slice x3 add.length y3) (.slice x4 rem.length y4) (.int .i64 mn)) (And.intro (LB.out.2.2.1.nine (.int .i64 id) (.int .i64 ld) (.int .i64 ep) (.int .i64 vr) (.slice x1 isr.length y1) (.slice x2 reps.length y2) (.slice x3 add.length y3) (.slice x4 rem.length y4) (.int .i64 mn)) (LB.out.2.2.2.nine (.int .i64 id) (.int .i64 ld) (.int .i64 ep) (.int .i64 vr) (.slice x1 isr.length y1) (.slice x2 reps.length y2) (.slice x3 add.length y3) (.slice x4 rem.length y4) (.int .i64 mn)))))
 clear k0 k1 k2 k3 k4 k5 k6 k7 k8 z0 z1 z2 z3 z4 z5 z6 z7 z8 fx fz LB HT2 HT1
 generalize (((((((((W2.setCell ⟨w.heap.size,0,none⟩ (.int .i64 id)).setCell ⟨w.heap.size,1,none⟩ (.int .i64 ld)).setCell ⟨w.heap.size,2,none⟩ (.int .i64 ep)).setCell ⟨w.heap.size,3,none⟩ (.int .i64 vr)).setCell ⟨w.heap.size,4,none⟩ (.slice x1 isr.length y1)).setCell ⟨w.heap.size,5,none⟩ (.slice x2 reps.length y2)).setCell ⟨w.heap.size,6,none⟩ (.slice x3 add.length y3)).setCell ⟨w.heap.size,7,none⟩ (.slice x4 rem.length y4)).setCell ⟨w.heap.size,8,none⟩ (.int .i64 mn))=W3 at *
 obtain ⟨k0,k1,k2,k3,k4,k5,k6,k7,k8⟩:=cells9 HT3.out.x
 obtain ⟨z0,z1,z2,z3,z4,z5,z6,z7,z8⟩:=cells9 HT3.out.z
 have fx:=frz_blk HT3.out.x
 have fz:=frz_blk HT3.out.z
 have L:Hid (NW w W3 (.slice x1 isr.length y1) isr∧NW w W3 (.slice x2 reps.length y2) reps∧NW w W3 (.slice x3 add.length y3) add∧NW w W3 (.slice x4 rem.length y4) rem):=⟨⟨LA.out.1.1,LN.out.1⟩,⟨LA.out.2.1.1,LN.out.2.1⟩,⟨LA.out.2.2.1.1,LN.out.2.2.1⟩,⟨LA.out.2.2.2.1,LN.out.2.2.2⟩⟩
 clear LA LN
 clear hm h1 h2
 go_wp2_with fail
 refine (G63.out _ _ _ HT3.out.b L.out.2.1.1).mono ?_
 rintro e W4 ⟨da,dc,rfl,h1,h2,hb⟩
 have HT4:=hid (HT3.out.next hb)
 have L4:Hid (NW w W4 (.slice x1 isr.length y1) isr∧NW w W4 (.slice x2 reps.length y2) reps∧NW w W4 (.slice x3 add.length y3) add∧NW w W4 (.slice x4 rem.length y4) rem):=⟨L.out.1.under hb,L.out.2.1.under hb,L.out.2.2.1.under hb,L.out.2.2.2.under hb⟩
 have LA4:=hid (nw_new (w:=w) h1 h2 HT3.out.s)
 clear h1 h2 hb HT3 L k0 k1 k2 k3 k4 k5 k6 k7 k8 z0 z1 z2 z3 z4 z5 z6 z7 z8 fx fz
 obtain ⟨k0,k1,k2,k3,k4,k5,k6,k7,k8⟩:=cells9 HT4.out.x
 obtain ⟨z0,z1,z2,z3,z4,z5,z6,z7,z8⟩:=cells9 HT4.out.z
 have fx:=frz_blk HT4.out.x
 have fz:=frz_blk HT4.out.z
 go_wp2_with fail
 refine (G63c.out _ _ _ HT4.out.b L4.out.2.1.1).mono ?_
 rintro e W5 ⟨ra,rc,rfl,h1,h2,hb⟩
 have HT5:=hid (HT4.out.next hb)
 have L5:Hid (NW w W5 (.slice x1 isr.length y1) isr∧NW w W5 (.slice x2 reps.length y2) reps∧NW w W5 (.slice x3 add.length y3) add∧NW w W5 (.slice x4 rem.length y4) rem):=⟨L4.out.1.under hb,L4.out.2.1.under hb,L4.out.2.2.1.under hb,L4.out.2.2.2.under hb⟩
 have LR5:=hid (nw_new (w:=w) h1 h2 HT4.out.s)
 have LA5:=hid (LA4.out.under hb)
 clear h1 h2 hb HT4 L4 LA4 k0 k1 k2 k3 k4 k5 k6 k7 k8 z0 z1 z2 z3 z4 z5 z6 z7 z8 fx fz
 obtain ⟨k0,k1,k2,k3,k4,k5,k6,k7,k8⟩:=cells9 HT5.out.x
 obtain ⟨z0,z1,z2,z3,z4,z5,z6,z7,z8⟩:=cells9 HT5.out.z
 have fx:=frz_blk HT5.out.x
 have fz:=frz_blk HT5.out.z
 go_wp2_with fail
 refine (G36.out _ _ _ HT5.out.b L5.out.2.1.1).mono ?_
 rintro e W6 ⟨rfl,hb⟩
 have HT6:=hid (HT5.out.next hb)
 have L6:Hid (NW w W6 (.slice x1 isr.length y1) isr∧NW w W6 (.slice x2 reps.length y2) reps∧NW w W6 (.slice x3 add.length y3) add∧NW w W6 (.slice x4 rem.length y4) rem):=⟨L5.out.1.under hb,L5.out.2.1.under hb,L5.out.2.2.1.under hb,L5.out.2.2.2.under hb⟩
 have LR6:=hid (LR5.out.under hb)
 have LA6:=hid (LA5.out.under hb)
 clear hb HT5 L5 LR5 LA5 k0 k1 k2 k3 k4 k5 k6 k7 k8 z0 z1 z2 z3 z4 z5 z6 z7 z8 fx fz
 obtain ⟨k0,k1,k2,k3,k4,k5,k6,k7,k8⟩:=cells9 HT6.out.x
 obtain ⟨z0,z1,z2,z3,z4,z5,z6,z7,z8⟩:=cells9 HT6.out.z
 have fx:=frz_blk HT6.out.x
 have fz:=frz_blk HT6.out.z
 cases B6
 case true =>
  have HR:Hid (r=(⟨id,ld,ep,vr,isr,reps,add,rem,mn⟩,0)):=by show _=_;rw [HE4.out];simp
  go_wp2_with fail
  exact leaf9 HT6.out rfl Tryz.results80 (n:=.int .i64 0) rfl rfl rfl fun W9 HT9 hsz9 HOFF=>(by rw [HR.out];exact ⟨_,rfl,⟨_,_,_,_,rfl,L6.out.1.ia.offz HOFF.out hsz9,L6.out.2.1.ia.offz HOFF.out hsz9,L6.out.2.2.1.ia.offz HOFF.out hsz9,L6.out.2.2.2.ia.offz HOFF.out hsz9,HI.out⟩,(inP_of (L6.out.1.2.mono fun b hb=>by omega) (L6.out.2.1.2.mono fun b hb=>by omega) (L6.out.2.2.1.2.mono fun b hb=>by omega) (L6.out.2.2.2.2.mono fun b hb=>by omega)),HT9.out.b⟩)
 have HR:Hid (r=verP ⟨id,ld,ep,vr,isr,N,A,R,mn⟩):=by show _=_;rw [HE4.out];simp
 clear HE4
 go_upto_region 16 with fail
 have HT7:Hid (TwoB w (W6.setCell ⟨w.heap.size,6,none⟩ (.slice da A.length dc)) #[.int .i64 id,.int .i64 ld,.int .i64 ep,.int .i64 vr,.slice x1 isr.length y1,.slice x2 reps.length y2,.slice da A.length dc,.slice x4 rem.length y4,.int .i64 mn] #[.int .i64 0,.int .i64 0,.int .i64 0,.int .i64 0,.slice none 0 0,.slice none 0 0,.slice none 0 0,.slice none 0 0,.int .i64 0]):=HT6.out.setx 6 (.slice da A.length dc)
 have L7:Hid (NW w (W6.setCell ⟨w.heap.size,6,none⟩ (.slice da A.length dc)) (.slice x1 isr.length y1) isr∧NW w (W6.setCell ⟨w.heap.size,6,none⟩ (.slice da A.length dc)) (.slice x2 reps.length y2) reps∧NW w (W6.setCell ⟨w.heap.size,6,none⟩ (.slice da A.length dc)) (.slice da A.length dc) A∧NW w (W6.setCell ⟨w.heap.size,6,none⟩ (.slice da A.length dc)) (.slice x4 rem.length y4) rem):=⟨L6.out.1.set 6 (.slice da A.length dc),L6.out.2.1.set 6 (.slice da A.length dc),(LA6.out).set 6 (.slice da A.length dc),L6.out.2.2.2.set 6 (.slice da A.length dc)⟩
 clear HT6 L6 k0 k1 k2 k3 k4 k5 k6 k7 k8 z0 z1 z2 z3 z4 z5 z6 z7 z8 fx fz
 have LR7:=hid (LR6.out.set 6 (.slice da A.length dc))
 generalize W6.setCell ⟨w.heap.size,6,none⟩ (.slice da A.length dc)=W7 at *
 obtain ⟨k0,k1,k2,k3,k4,k5,k6,k7,k8⟩:=cells9 HT7.out.x
 obtain ⟨z0,z1,z2,z3,z4,z5,z6,z7,z8⟩:=cells9 HT7.out.z
 have fx:=frz_blk HT7.out.x
 have fz:=frz_blk HT7.out.z
 go_upto_region 17 with fail
 have HT8:Hid (TwoB w (W7.setCell ⟨w.heap.size,7,none⟩ (.slice ra R.length rc)) #[.int .i64 id,.int .i64 ld,.int .i64 ep,.int .i64 vr,.slice x1 isr.length y1,.slice x2 reps.length y2,.slice da A.length dc,.slice ra R.length rc,.int .i64 mn] #[.int .i64 0,.int .i64 0,.int .i64 0,.int .i64 0,.slice none 0 0,.slice none 0 0,.slice none 0 0,.slice none 0 0,.int .i64 0]):=HT7.out.setx 7 (.slice ra R.length rc)
 have L8:Hid (NW w (W7.setCell ⟨w.heap.size,7,none⟩ (.slice ra R.length rc)) (.slice x1 isr.length y1) isr∧NW w (W7.setCell ⟨w.heap.size,7,none⟩ (.slice ra R.length rc)) (.slice x2 reps.length y2) reps∧NW w (W7.setCell ⟨w.heap.size,7,none⟩ (.slice ra R.length rc)) (.slice da A.length dc) A∧NW w (W7.setCell ⟨w.heap.size,7,none⟩ (.slice ra R.length rc)) (.slice ra R.length rc) R):=⟨L7.out.1.set 7 (.slice ra R.length rc),L7.out.2.1.set 7 (.slice ra R.length rc),L7.out.2.2.1.set 7 (.slice ra R.length rc),(LR7.out).set 7 (.slice ra R.length rc)⟩
 clear HT7 L7 k0 k1 k2 k3 k4 k5 k6 k7 k8 z0 z1 z2 z3 z4 z5 z6 z7 z8 fx fz
 generalize W7.setCell ⟨w.heap.size,7,none⟩ (.slice ra R.length rc)=W8 at *
 obtain ⟨k0,k1,k2,k3,k4,k5,k6,k7,k8⟩:=cells9 HT8.out.x
 obtain ⟨z0,z1,z2,z3,z4,z5,z6,z7,z8⟩:=cells9 HT8.out.z
 have fx:=frz_blk HT8.out.x
 have fz:=frz_blk HT8.out.z
 clear LR6 LR7 LA6
 go_wp2_with fail
 refine (G65.out _ HT8.out.b).mono ?_
 rintro e X8 ⟨v8,rfl,hown0,hb⟩
 have HOWN:=hid hown0
 have HB8:=hid hb
 have HRX:=hid (L8.out.2.2.2.under hb)
 have HFEW:Hid (N.length≤17592186044415):=by show _≤_;rw [HNL.out];have:=HF7.out;have:=HRL.out;omega
 obtain ⟨o1,o2,o3,rfl⟩:=own_shape hown0
 have hT8:=hid (HT8.out.next hb)
 clear hown0 hb k0 k1 k2 k3 k4 k5 k6 k7 k8 z0 z1 z2 z3 z4 z5 z6 z7 z8 fx fz
 obtain ⟨k0,k1,k2,k3,k4,k5,k6,k7,k8⟩:=cells9 hT8.out.x
 obtain ⟨z0,z1,z2,z3,z4,z5,z6,z7,z8⟩:=cells9 hT8.out.z
 have fx:=frz_blk hT8.out.x
 have fz:=frz_blk hT8.out.z
 have hlR:=HRF.out
 cases ra with
 | none =>
  have HN0:Hid (R=[]):=HRX.out.1.none_nil.2.2
  have hR0:R.length=0:=by rw [HN0.out];rfl
  have hc0:rc=0:=HRX.out.1.none_nil.2.1
  subst hc0
  have hown:X8.ownsRow W8.heap.size 3 1 (.slice o1 o2 o3) N.length (vals N):=by
   rw [HNL.out,HNV.out,HN0.out]
   simpa [vals] using HOWN.out
  have HRn:Hid (R.length=0):=hR0
  clear hR0
  generalize hRl:R.length=rl at *
  have hrl:rl=0:=HRn.out
  subst hrl
  clear hRl
  have HB9:=HB8
  clear HB8
  generalize X8=W9 at *
  have hIL:IL W9 (.slice o1 o2 o3) N:=IL.of hown HOKN.out HFEW.out
  have ho2:o2=N.length:=(by obtain ⟨_,_,e,_⟩:=hIL.shape;cases e;rfl)
  subst ho2
  have LN9:Hid (NW w W9 (.slice o1 N.length o3) N):=⟨hIL,(in_own hown).mono fun b hb=>Nat.le_trans HT8.out.s hb⟩
  have HT9:=hid (HT8.out.next HB9.out)
  have L9:Hid (NW w W9 (.slice x1 isr.length y1) isr∧NW w W9 (.slice x2 reps.length y2) reps∧NW w W9 (.slice da A.length dc) A∧NW w W9 (.slice none 0 0) R):=⟨L8.out.1.under HB9.out,L8.out.2.1.under HB9.out,L8.out.2.2.1.under HB9.out,L8.out.2.2.2.under HB9.out⟩
  clear hown hIL hT8 k0 k1 k2 k3 k4 k5 k6 k7 k8 z0 z1 z2 z3 z4 z5 z6 z7 z8 fx fz
  obtain ⟨k0,k1,k2,k3,k4,k5,k6,k7,k8⟩:=cells9 HT9.out.x
  obtain ⟨z0,z1,z2,z3,z4,z5,z6,z7,z8⟩:=cells9 HT9.out.z
  have fx:=frz_blk HT9.out.x
  have fz:=frz_blk HT9.out.z
  go_upto_region 18 with (at_builtin;refine wpList_append_own_none rfl _ _ 23 rfl W8.heap.size 3 i9 1 Tryz.underlying23 hi9 _ t.length VT rfl HOWN.out rfl ?_)
  have HT10:Hid (TwoB w (W9.setCell ⟨w.heap.size,5,none⟩ (.slice o1 N.length o3)) #[.int .i64 id,.int .i64 ld,.int .i64 ep,.int .i64 vr,.slice x1 isr.length y1,.slice o1 N.length o3,.slice da A.length dc,.slice none 0 0,.int .i64 mn] #[.int .i64 0,.int .i64 0,.int .i64 0,.int .i64 0,.slice none 0 0,.slice none 0 0,.slice none 0 0,.slice none 0 0,.int .i64 0]):=HT9.out.setx 5 (.slice o1 N.length o3)
  have L10:Hid (NW w (W9.setCell ⟨w.heap.size,5,none⟩ (.slice o1 N.length o3)) (.slice x1 isr.length y1) isr∧NW w (W9.setCell ⟨w.heap.size,5,none⟩ (.slice o1 N.length o3)) (.slice o1 N.length o3) N∧NW w (W9.setCell ⟨w.heap.size,5,none⟩ (.slice o1 N.length o3)) (.slice da A.length dc) A∧NW w (W9.setCell ⟨w.heap.size,5,none⟩ (.slice o1 N.length o3)) (.slice none 0 0) R):=⟨L9.out.1.set 5 (.slice o1 N.length o3),(LN9.out).set 5 (.slice o1 N.length o3),L9.out.2.2.1.set 5 (.slice o1 N.length o3),L9.out.2.2.2.set 5 (.slice o1 N.length o3)⟩
  clear HT9 L9 k0 k1 k2 k3 k4 k5 k6 k7 k8 z0 z1 z2 z3 z4 z5 z6 z7 z8 fx fz
  generalize W9.setCell ⟨w.heap.size,5,none⟩ (.slice o1 N.length o3)=W10 at *
  obtain ⟨k0,k1,k2,k3,k4,k5,k6,k7,k8⟩:=cells9 HT10.out.x
  obtain ⟨z0,z1,z2,z3,z4,z5,z6,z7,z8⟩:=cells9 HT10.out.z
  have fx:=frz_blk HT10.out.x
  have fz:=frz_blk HT10.out.z
  have GC:=hid (rchanged_any (X:=fun b=>w.heap.size+2≤b) (w:=W10) (v:=.agg #[.int .i64 id,.int .i64 ld,.int .i64 ep,.int .i64 vr,.slice x1 isr.length y1,.slice o1 N.length o3,.slice da A.length dc,.slice none 0 0,.int .i64 mn]) (p:=⟨id,ld,ep,vr,isr,N,A,R,mn⟩) ⟨_,_,_,_,rfl,L10.out.1.1,L10.out.2.1.1,L10.out.2.2.1.1,L10.out.2.2.2.1,HI.out⟩ (inP_of L10.out.1.2 L10.out.2.1.2 L10.out.2.2.1.2 L10.out.2.2.2.2) hvr)
  generalize verP ⟨id,ld,ep,vr,isr,N,A,R,mn⟩=r2 at *
  obtain ⟨⟨rid,rld,rep,rvr,rl1,rl2,rl3,rl4,rmn⟩,re⟩:=r2
  go_wp2_with fail
  refine GC.out.mono ?_
  rintro e W11 ⟨v',rfl,h1,h2,hb⟩
  obtain ⟨g1,j1,g2,j2,g3,j3,g4,j4,rfl,q1,q2,q3,q4,ii⟩:=h1.open
  obtain ⟨n1,n2,n3,n4⟩:=h2 _ _ _ _ _ _ _ _ _ rfl
  simp only at q1 q2 q3 q4 n1 n2 n3 n4 ii
  have HT11:=hid (HT10.out.next hb)
  have HL:Hid (IA w W11 (.slice g1 rl1.length j1) rl1∧IA w W11 (.slice g2 rl2.length j2) rl2∧IA w W11 (.slice g3 rl3.length j3) rl3∧IA w W11 (.slice g4 rl4.length j4) rl4):=⟨⟨q1,n1.mono fun b hx=>.inr hx⟩,⟨q2,n2.mono fun b hx=>.inr hx⟩,⟨q3,n3.mono fun b hx=>.inr hx⟩,⟨q4,n4.mono fun b hx=>.inr hx⟩⟩
  have HN:Hid (InP (fun b=>w.heap.size≤b) (.agg #[.int .i64 rid,.int .i64 rld,.int .i64 rep,.int .i64 rvr,.slice g1 rl1.length j1,.slice g2 rl2.length j2,.slice g3 rl3.length j3,.slice g4 rl4.length j4,.int .i64 rmn]) ⟨rid,rld,rep,rvr,rl1,rl2,rl3,rl4,rmn⟩):=h2.mono fun b hx=>by omega
  have HI2:=hid ii
  clear q1 q2 q3 q4 n1 n2 n3 n4 ii h1 h2 hb k0 k1 k2 k3 k4 k5 k6 k7 k8 z0 z1 z2 z3 z4 z5 z6 z7 z8 fx fz
  obtain ⟨k0,k1,k2,k3,k4,k5,k6,k7,k8⟩:=cells9 HT11.out.x
  obtain ⟨z0,z1,z2,z3,z4,z5,z6,z7,z8⟩:=cells9 HT11.out.z
  have fx:=frz_blk HT11.out.x
  have fz:=frz_blk HT11.out.z
  go_wp2_with fail
  exact leaf9 HT11.out rfl Tryz.results80 (n:=.int .i64 re) rfl rfl rfl fun W9 HT9 hsz9 HOFF=>(by rw [HR.out];exact ⟨_,rfl,⟨_,_,_,_,rfl,HL.out.1.offz HOFF.out hsz9,HL.out.2.1.offz HOFF.out hsz9,HL.out.2.2.1.offz HOFF.out hsz9,HL.out.2.2.2.offz HOFF.out hsz9,HI2.out⟩,HN.out,HT9.out.b⟩)
 | some ad =>
  have HNW:=hid HRX.out.1.vcells.2
  have HON:=hid (vals_one R)
  have HLn:Hid ((vals R).length=R.length*1):=by show _=_;rw [vals_length];omega
  go_upto_region 18 with (at_builtin;refine wpList_append_own_at _ rfl _ _ 23 rfl W8.heap.size 3 i9 _ 1 8 Tryz.underlying23 hi9 hz0 hz1 hz2 rfl (by decide) _ t.length VT rfl HOWN.out ad R.length rc (vals R) rfl HLn.out HNW.out HON.out (by unfold maxLen;have:=HF7.out;have:=HRL.out;omega) (by have:=HF7.out;have:=HRL.out;omega) (by exact HB8.out.size) ?_;intro va W9 hown hg9 _ hat9;rw [← HNL.out,← HNV.out] at hown;have HB9:Hid (Below W8.heap.size W8 W9):=HB8.out.grown hg9 HB8.out.size (fun j hj=>(World.ownsRow.lt HOWN.out j hj).1);obtain ⟨na,nn,nc,hsh⟩:=own_shape hown;subst hsh;have hIL:IL W9 (.slice na nn nc) N:=IL.of hown HOKN.out HFEW.out;have hnn:nn=N.length:=(by obtain ⟨_,_,e,_⟩:=hIL.shape;cases e;rfl);subst hnn;have LN9:Hid (NW w W9 (.slice na N.length nc) N):=⟨hIL,(in_own hown).mono fun b hb=>Nat.le_trans HT8.out.s hb⟩;have HT9:=hid (HT8.out.next HB9.out);have L9:Hid (NW w W9 (.slice x1 isr.length y1) isr∧NW w W9 (.slice x2 reps.length y2) reps∧NW w W9 (.slice da A.length dc) A∧NW w W9 (.slice (some ad) R.length rc) R):=⟨L8.out.1.under HB9.out,L8.out.2.1.under HB9.out,L8.out.2.2.1.under HB9.out,L8.out.2.2.2.under HB9.out⟩;clear hown hIL hT8 k0 k1 k2 k3 k4 k5 k6 k7 k8 z0 z1 z2 z3 z4 z5 z6 z7 z8 fx fz;have k0:=cell_blk HT9.out.x 0 _ rfl;have k1:=cell_blk HT9.out.x 1 _ rfl;have k2:=cell_blk HT9.out.x 2 _ rfl;have k3:=cell_blk HT9.out.x 3 _ rfl;have k4:=cell_blk HT9.out.x 4 _ rfl;have k5:=cell_blk HT9.out.x 5 _ rfl;have k6:=cell_blk HT9.out.x 6 _ rfl;have k7:=cell_blk HT9.out.x 7 _ rfl;have k8:=cell_blk HT9.out.x 8 _ rfl;have z0:=cell_blk HT9.out.z 0 _ rfl;have z1:=cell_blk HT9.out.z 1 _ rfl;have z2:=cell_blk HT9.out.z 2 _ rfl;have z3:=cell_blk HT9.out.z 3 _ rfl;have z4:=cell_blk HT9.out.z 4 _ rfl;have z5:=cell_blk HT9.out.z 5 _ rfl;have z6:=cell_blk HT9.out.z 6 _ rfl;have z7:=cell_blk HT9.out.z 7 _ rfl;have z8:=cell_blk HT9.out.z 8 _ rfl;have fx:=frz_blk HT9.out.x;have fz:=frz_blk HT9.out.z)
  have HT10:Hid (TwoB w (W9.setCell ⟨w.heap.size,5,none⟩ (.slice na N.length nc)) #[.int .i64 id,.int .i64 ld,.int .i64 ep,.int .i64 vr,.slice x1 isr.length y1,.slice na N.length nc,.slice da A.length dc,.slice (some ad) R.length rc,.int .i64 mn] #[.int .i64 0,.int .i64 0,.int .i64 0,.int .i64 0,.slice none 0 0,.slice none 0 0,.slice none 0 0,.slice none 0 0,.int .i64 0]):=HT9.out.setx 5 (.slice na N.length nc)
  have L10:Hid (NW w (W9.setCell ⟨w.heap.size,5,none⟩ (.slice na N.length nc)) (.slice x1 isr.length y1) isr∧NW w (W9.setCell ⟨w.heap.size,5,none⟩ (.slice na N.length nc)) (.slice na N.length nc) N∧NW w (W9.setCell ⟨w.heap.size,5,none⟩ (.slice na N.length nc)) (.slice da A.length dc) A∧NW w (W9.setCell ⟨w.heap.size,5,none⟩ (.slice na N.length nc)) (.slice (some ad) R.length rc) R):=⟨L9.out.1.set 5 (.slice na N.length nc),(LN9.out).set 5 (.slice na N.length nc),L9.out.2.2.1.set 5 (.slice na N.length nc),L9.out.2.2.2.set 5 (.slice na N.length nc)⟩
  clear HT9 L9 k0 k1 k2 k3 k4 k5 k6 k7 k8 z0 z1 z2 z3 z4 z5 z6 z7 z8 fx fz
  generalize W9.setCell ⟨w.heap.size,5,none⟩ (.slice na N.length nc)=W10 at *
  obtain ⟨k0,k1,k2,k3,k4,k5,k6,k7,k8⟩:=cells9 HT10.out.x
  obtain ⟨z0,z1,z2,z3,z4,z5,z6,z7,z8⟩:=cells9 HT10.out.z
  have fx:=frz_blk HT10.out.x
  have fz:=frz_blk HT10.out.z
  have GC:=hid (rchanged_any (X:=fun b=>w.heap.size+2≤b) (w:=W10) (v:=.agg #[.int .i64 id,.int .i64 ld,.int .i64 ep,.int .i64 vr,.slice x1 isr.length y1,.slice na N.length nc,.slice da A.length dc,.slice (some ad) R.length rc,.int .i64 mn]) (p:=⟨id,ld,ep,vr,isr,N,A,R,mn⟩) ⟨_,_,_,_,rfl,L10.out.1.1,L10.out.2.1.1,L10.out.2.2.1.1,L10.out.2.2.2.1,HI.out⟩ (inP_of L10.out.1.2 L10.out.2.1.2 L10.out.2.2.1.2 L10.out.2.2.2.2) hvr)
  generalize verP ⟨id,ld,ep,vr,isr,N,A,R,mn⟩=r2 at *
  obtain ⟨⟨rid,rld,rep,rvr,rl1,rl2,rl3,rl4,rmn⟩,re⟩:=r2
  go_wp2_with fail
  refine GC.out.mono ?_
  rintro e W11 ⟨v',rfl,h1,h2,hb⟩
  obtain ⟨g1,j1,g2,j2,g3,j3,g4,j4,rfl,q1,q2,q3,q4,ii⟩:=h1.open
  obtain ⟨n1,n2,n3,n4⟩:=h2 _ _ _ _ _ _ _ _ _ rfl
  simp only at q1 q2 q3 q4 n1 n2 n3 n4 ii
  have HT11:=hid (HT10.out.next hb)
  have HL:Hid (IA w W11 (.slice g1 rl1.length j1) rl1∧IA w W11 (.slice g2 rl2.length j2) rl2∧IA w W11 (.slice g3 rl3.length j3) rl3∧IA w W11 (.slice g4 rl4.length j4) rl4):=⟨⟨q1,n1.mono fun b hx=>.inr hx⟩,⟨q2,n2.mono fun b hx=>.inr hx⟩,⟨q3,n3.mono fun b hx=>.inr hx⟩,⟨q4,n4.mono fun b hx=>.inr hx⟩⟩
  have HN:Hid (InP (fun b=>w.heap.size≤b) (.agg #[.int .i64 rid,.int .i64 rld,.int .i64 rep,.int .i64 rvr,.slice g1 rl1.length j1,.slice g2 rl2.length j2,.slice g3 rl3.length j3,.slice g4 rl4.length j4,.int .i64 rmn]) ⟨rid,rld,rep,rvr,rl1,rl2,rl3,rl4,rmn⟩):=h2.mono fun b hx=>by omega
  have HI2:=hid ii
  clear q1 q2 q3 q4 n1 n2 n3 n4 ii h1 h2 hb k0 k1 k2 k3 k4 k5 k6 k7 k8 z0 z1 z2 z3 z4 z5 z6 z7 z8 fx fz
  obtain ⟨k0,k1,k2,k3,k4,k5,k6,k7,k8⟩:=cells9 HT11.out.x
  obtain ⟨z0,z1,z2,z3,z4,z5,z6,z7,z8⟩:=cells9 HT11.out.z
  have fx:=frz_blk HT11.out.x
  have fz:=frz_blk HT11.out.z
  go_wp2_with fail
  exact leaf9 HT11.out rfl Tryz.results80 (n:=.int .i64 re) rfl rfl rfl fun W9 HT9 hsz9 HOFF=>(by rw [HR.out];exact ⟨_,rfl,⟨_,_,_,_,rfl,HL.out.1.offz HOFF.out hsz9,HL.out.2.1.offz HOFF.out hsz9,HL.out.2.2.1.offz HOFF.out hsz9,HL.out.2.2.2.offz HOFF.out hsz9,HI2.out⟩,HN.out,HT9.out.b⟩)
end Go.Proofs.YtcffomhcmilcpaaGreat
