/- A copy of a state. -/
import Derived.Test.YtcffomhcmilcpaaGreatC1
import Derived.Deep.RegionHeld3
import Derived.Deep.CutBlock
import Derived.Deep.CutRange
set_option maxRecDepth 100000
set_option maxHeartbeats 20000000
set_option linter.unusedVariables false
set_option linter.unusedSimpArgs false
namespace Go.Proofs.YtcffomhcmilcpaaGreat
open Go.RowKit Go.Maps
theorem with_any {w:World} {v:Value} {p:Pt} (h:PartM w v p):Calls Tryz.prog 107 #[v,.func (.func 108) #[] #[]] w fun e w'=>∃ v',e=.returned v'∧PartM w' v' p∧InP (fun b=>w.heap.size≤b) v' p∧Below w.heap.size w w':=by
 obtain ⟨id,ld,ep,vr,isr,reps,add,rem,mn⟩:=p
 obtain ⟨a1,c1,a2,c2,a3,c3,a4,c4,rfl,q1,q2,q3,q4,i0,i1,i2,i3,i4⟩:=h.open
 simp only at q1 q2 q3 q4 i0 i1 i2 i3 i4 ⊢
 have Q1:=hid q1
 have Q2:=hid q2
 have Q3:=hid q3
 have Q4:=hid q4
 clear h q1 q2 q3 q4
 have HI:Hid (I64 id∧I64 ld∧I64 ep∧I64 vr∧I64 mn):=⟨i0,i1,i2,i3,i4⟩
 have HT0:=hid (two_new w (PL id ld ep vr a1 isr c1 a2 reps c2 a3 add c3 a4 rem c4 mn) PZ)
 have G1:Hid (∀ W cs zs,TwoB w W cs zs→Calls Tryz.prog 108 #[.slice a1 isr.length c1] W fun e w'=>∃ a c,e=.returned (.slice a isr.length c)∧IA w w' (.slice a isr.length c) isr∧TwoB w w' cs zs∧Below W.heap.size W w'∧In (fun b=>w.heap.size≤b) (.slice a isr.length c) isr):=fun W cs zs hb=>(copied_any (Q1.out.under hb.b)).mono fun e w' ⟨v',e1,e2,e4,e3⟩=>by obtain ⟨x,y,rfl,_⟩:=e2.shape;exact ⟨x,y,e1,ia_new e2 e4 hb.s,hb.next e3,e3,e4.mono fun b hx=>Nat.le_trans hb.b.size hx⟩
 have G2:Hid (∀ W cs zs,TwoB w W cs zs→Calls Tryz.prog 108 #[.slice a2 reps.length c2] W fun e w'=>∃ a c,e=.returned (.slice a reps.length c)∧IA w w' (.slice a reps.length c) reps∧TwoB w w' cs zs∧Below W.heap.size W w'∧In (fun b=>w.heap.size≤b) (.slice a reps.length c) reps):=fun W cs zs hb=>(copied_any (Q2.out.under hb.b)).mono fun e w' ⟨v',e1,e2,e4,e3⟩=>by obtain ⟨x,y,rfl,_⟩:=e2.shape;exact ⟨x,y,e1,ia_new e2 e4 hb.s,hb.next e3,e3,e4.mono fun b hx=>Nat.le_trans hb.b.size hx⟩
 have G3:Hid (∀ W cs zs,TwoB w W cs zs→Calls Tryz.prog 108 #[.slice a3 add.length c3] W fun e w'=>∃ a c,e=.returned (.slice a add.length c)∧IA w w' (.slice a add.length c) add∧TwoB w w' cs zs∧Below W.heap.size W w'∧In (fun b=>w.heap.size≤b) (.slice a add.length c) add):=fun W cs zs hb=>(copied_any (Q3.out.under hb.b)).mono fun e w' ⟨v',e1,e2,e4,e3⟩=>by obtain ⟨x,y,rfl,_⟩:=e2.shape;exact ⟨x,y,e1,ia_new e2 e4 hb.s,hb.next e3,e3,e4.mono fun b hx=>Nat.le_trans hb.b.size hx⟩
 have G4:Hid (∀ W cs zs,TwoB w W cs zs→Calls Tryz.prog 108 #[.slice a4 rem.length c4] W fun e w'=>∃ a c,e=.returned (.slice a rem.length c)∧IA w w' (.slice a rem.length c) rem∧TwoB w w' cs zs∧Below W.heap.size W w'∧In (fun b=>w.heap.size≤b) (.slice a rem.length c) rem):=fun W cs zs hb=>(copied_any (Q4.out.under hb.b)).mono fun e w' ⟨v',e1,e2,e4,e3⟩=>by obtain ⟨x,y,rfl,_⟩:=e2.shape;exact ⟨x,y,e1,ia_new e2 e4 hb.s,hb.next e3,e3,e4.mono fun b hx=>Nat.le_trans hb.b.size hx⟩
 clear i0 i1 i2 i3 i4 Q1 Q2 Q3 Q4
 go_enter Tryz.func107,Tryz.ntmps107
 go_upto_region 1 with fail
 generalize (w.alloc (.cells (PL id ld ep vr a1 isr c1 a2 reps c2 a3 add c3 a4 rem c4 mn) 54)).alloc (.cells PZ 54)=W0 at *
 go_cut [] from 5 to 14 (fun W=>∃ x1 y1 x2 y2,TwoB w W (PL id ld ep vr x1 isr y1 x2 reps y2 a3 add c3 a4 rem c4 mn) PZ∧IA w W (.slice x1 isr.length y1) isr∧IA w W (.slice x2 reps.length y2) reps∧In (fun b=>w.heap.size≤b) (.slice x1 isr.length y1) isr∧In (fun b=>w.heap.size≤b) (.slice x2 reps.length y2) reps)
 case first =>
  have k4:=cell_blk HT0.out.x 4 _ rfl
  have k5:=cell_blk HT0.out.x 5 _ rfl
  have f4:=frz_blk HT0.out.x 4
  have f5:=frz_blk HT0.out.x 5
  go_region_with (first
   | (go_at_call_of 108 (isr.length);refine (G1.out _ _ _ (by first | exact HT0.out | exact HT0.out.drew | exact HTB1.out | exact HTB1.out.drew)).mono ?_;rintro e WA1 ⟨x1,y1,rfl,il,t1,b1,n1⟩;have HL1:=hid il;have HTA1:=hid t1;have HBA1:=hid b1;have HN1:=hid n1;have k5:=cell_blk t1.x 5 _ rfl;have f5:=frz_blk t1.x 5;have k4:=cell_blk t1.x 4 _ rfl;have f4:=frz_blk t1.x 4;clear il t1 b1 n1)
   | (go_at_call_of 108 (reps.length);refine (G2.out _ _ _ (by first | exact HT0.out | exact HT0.out.drew | exact HTA1.out | exact HTA1.out.drew)).mono ?_;rintro e WB1 ⟨x2,y2,rfl,il,t2,b2,n2⟩;have HL2:=hid il;have HTB1:=hid t2;have HBB1:=hid b2;have HN2:=hid n2;have k4:=cell_blk t2.x 4 _ rfl;have f4:=frz_blk t2.x 4;have k5:=cell_blk t2.x 5 _ rfl;have f5:=frz_blk t2.x 5;clear il t2 b2 n2))
  all_goals
   go_wp2_with fail
   go_meet
   case rel =>
    refine ⟨x1,y1,x2,y2,?_,?_,?_,HN1.out,HN2.out⟩
    ·first | exact (HTB1.out.setx 4 _).setx 5 _ | exact (HTB1.out.drew.setx 4 _).setx 5 _ | exact (HTA1.out.setx 4 _).setx 5 _ | exact (HTA1.out.drew.setx 4 _).setx 5 _
    ·first | exact ((HL1.out.under HBB1.out).set (.inl rfl) _ _).set (.inl rfl) _ _ | exact ((HL1.out.under ((Below.refl _ _).drew.trans HBB1.out)).set (.inl rfl) _ _).set (.inl rfl) _ _ | exact (HL1.out.set (.inl rfl) _ _).set (.inl rfl) _ _ | exact ((HL1.out.under (Below.refl _ _).drew).set (.inl rfl) _ _).set (.inl rfl) _ _ | exact ((HL1.out.under (HBB1.out.drew)).set (.inl rfl) _ _).set (.inl rfl) _ _
    ·first | exact ((HL2.out.under HBA1.out).set (.inl rfl) _ _).set (.inl rfl) _ _ | exact ((HL2.out.under ((Below.refl _ _).drew.trans HBA1.out)).set (.inl rfl) _ _).set (.inl rfl) _ _ | exact (HL2.out.set (.inl rfl) _ _).set (.inl rfl) _ _ | exact ((HL2.out.under (Below.refl _ _).drew).set (.inl rfl) _ _).set (.inl rfl) _ _ | exact ((HL2.out.under (HBA1.out.drew)).set (.inl rfl) _ _).set (.inl rfl) _ _
 case rest =>
  obtain ⟨x1,y1,x2,y2,t1,l1,l2,n1,n2⟩:=hcut
  have HT1:=hid t1
  have HL1:=hid l1
  have HL2:=hid l2
  have HN1:=hid n1
  have HN2:=hid n2
  clear t1 l1 l2 n1 n2 HT0
  go_wp2_with fail
  go_upto_region 2 with fail
  generalize wc=W1 at *
  go_cut [] from 15 to 24 (fun W=>∃ x3 y3 x4 y4,TwoB w W (PL id ld ep vr x1 isr y1 x2 reps y2 x3 add y3 x4 rem y4 mn) PZ∧IA w W (.slice x3 add.length y3) add∧IA w W (.slice x4 rem.length y4) rem∧In (fun b=>w.heap.size≤b) (.slice x3 add.length y3) add∧In (fun b=>w.heap.size≤b) (.slice x4 rem.length y4) rem∧IA w W (.slice x1 isr.length y1) isr∧IA w W (.slice x2 reps.length y2) reps)
  case first =>
   have k6:=cell_blk HT1.out.x 6 _ rfl
   have k7:=cell_blk HT1.out.x 7 _ rfl
   have f6:=frz_blk HT1.out.x 6
   have f7:=frz_blk HT1.out.x 7
   go_region_with (first
    | (go_at_call_of 108 (add.length);refine (G3.out _ _ _ (by first | exact HT1.out | exact HT1.out.drew | exact HTB2.out | exact HTB2.out.drew)).mono ?_;rintro e WA2 ⟨x3,y3,rfl,il,t1,b1,n1⟩;have HL3:=hid il;have HTA2:=hid t1;have HBA2:=hid b1;have HN3:=hid n1;have k7:=cell_blk t1.x 7 _ rfl;have f7:=frz_blk t1.x 7;have k6:=cell_blk t1.x 6 _ rfl;have f6:=frz_blk t1.x 6;clear il t1 b1 n1)
    | (go_at_call_of 108 (rem.length);refine (G4.out _ _ _ (by first | exact HT1.out | exact HT1.out.drew | exact HTA2.out | exact HTA2.out.drew)).mono ?_;rintro e WB2 ⟨x4,y4,rfl,il,t2,b2,n2⟩;have HL4:=hid il;have HTB2:=hid t2;have HBB2:=hid b2;have HN4:=hid n2;have k6:=cell_blk t2.x 6 _ rfl;have f6:=frz_blk t2.x 6;have k7:=cell_blk t2.x 7 _ rfl;have f7:=frz_blk t2.x 7;clear il t2 b2 n2))
   all_goals
    go_wp2_with fail
    go_meet
    case rel =>
     refine ⟨x3,y3,x4,y4,?_,?_,?_,HN3.out,HN4.out,?_,?_⟩
     ·first | exact (HTB2.out.setx 6 _).setx 7 _ | exact (HTB2.out.drew.setx 6 _).setx 7 _ | exact (HTA2.out.setx 6 _).setx 7 _ | exact (HTA2.out.drew.setx 6 _).setx 7 _
     ·first | exact ((HL3.out.under HBB2.out).set (.inl rfl) _ _).set (.inl rfl) _ _ | exact ((HL3.out.under ((Below.refl _ _).drew.trans HBB2.out)).set (.inl rfl) _ _).set (.inl rfl) _ _ | exact (HL3.out.set (.inl rfl) _ _).set (.inl rfl) _ _ | exact ((HL3.out.under (Below.refl _ _).drew).set (.inl rfl) _ _).set (.inl rfl) _ _ | exact ((HL3.out.under (HBB2.out.drew)).set (.inl rfl) _ _).set (.inl rfl) _ _
     ·first | exact ((HL4.out.under HBA2.out).set (.inl rfl) _ _).set (.inl rfl) _ _ | exact ((HL4.out.under ((Below.refl _ _).drew.trans HBA2.out)).set (.inl rfl) _ _).set (.inl rfl) _ _ | exact (HL4.out.set (.inl rfl) _ _).set (.inl rfl) _ _ | exact ((HL4.out.under (Below.refl _ _).drew).set (.inl rfl) _ _).set (.inl rfl) _ _ | exact ((HL4.out.under (HBA2.out.drew)).set (.inl rfl) _ _).set (.inl rfl) _ _
     ·first | exact ((HL1.out.under (HBA2.out.trans (HBB2.out.mono HBA2.out.size))).set (.inl rfl) _ _).set (.inl rfl) _ _ | exact ((HL1.out.under (HBB2.out.trans (HBA2.out.mono HBB2.out.size))).set (.inl rfl) _ _).set (.inl rfl) _ _ | exact ((HL1.out.under ((Below.refl _ _).drew.trans (HBA2.out.trans (HBB2.out.mono HBA2.out.size)))).set (.inl rfl) _ _).set (.inl rfl) _ _ | exact ((HL1.out.under ((Below.refl _ _).drew.trans (HBB2.out.trans (HBA2.out.mono HBB2.out.size)))).set (.inl rfl) _ _).set (.inl rfl) _ _
     ·first | exact ((HL2.out.under (HBA2.out.trans (HBB2.out.mono HBA2.out.size))).set (.inl rfl) _ _).set (.inl rfl) _ _ | exact ((HL2.out.under (HBB2.out.trans (HBA2.out.mono HBB2.out.size))).set (.inl rfl) _ _).set (.inl rfl) _ _ | exact ((HL2.out.under ((Below.refl _ _).drew.trans (HBA2.out.trans (HBB2.out.mono HBA2.out.size)))).set (.inl rfl) _ _).set (.inl rfl) _ _ | exact ((HL2.out.under ((Below.refl _ _).drew.trans (HBB2.out.trans (HBA2.out.mono HBB2.out.size)))).set (.inl rfl) _ _).set (.inl rfl) _ _
  case rest =>
   obtain ⟨x3,y3,x4,y4,t2,l3,l4,n3,n4,l1,l2⟩:=hcut
   have HT2:=hid t2
   have HL:=hid (And.intro l1 (And.intro l2 (And.intro l3 l4)))
   have HN:=hid (And.intro n3 n4)
   obtain ⟨k0,k1,k2,k3,k4,k5,k6,k7,k8⟩:=cells9 t2.x
   obtain ⟨z0,z1,z2,z3,z4,z5,z6,z7,z8⟩:=cells9 t2.z
   have fz:=frz_blk t2.z
   clear t2 l3 l4 n3 n4 l1 l2 HT1 HL1 HL2
   go_wp2_with fail
   clear k0 k1 k2 k3 k4 k5 k6 k7 k8 z0 z1 z2 z3 z4 z5 z6 z7 z8 fz
   refine nineW (F:=bodyPost _ _ _ _ _) HT2.out rfl fun W9 HT9 hsz9 HOFF=>?_
   obtain ⟨r0,r1,r2,r3,r4,r5,r6,r7,r8⟩:=cells9 HT9.out.z
   exact bodyPost_ret (v:=.agg (PL id ld ep vr x1 isr y1 x2 reps y2 x3 add y3 x4 rem y4 mn)) (by simp [results,Tryz.results107,go_sem,r0,r1,r2,r3,r4,r5,r6,r7,r8]) rfl ⟨_,rfl,⟨_,_,_,_,rfl,HL.out.1.offz HOFF.out hsz9,HL.out.2.1.offz HOFF.out hsz9,HL.out.2.2.1.offz HOFF.out hsz9,HL.out.2.2.2.offz HOFF.out hsz9,HI.out⟩,inP_of HN1.out HN2.out HN.out.1 HN.out.2,HT9.out.b⟩
theorem clone_any {w:World} {v:Value} {p:Pt} (h:PartM w v p):Calls Tryz.prog 62 #[v] w fun e w'=>∃ v',e=.returned v'∧PartM w' v' p∧InP (fun b=>w.heap.size≤b) v' p∧Below w.heap.size w w':=by
 obtain ⟨id,ld,ep,vr,isr,reps,add,rem,mn⟩:=p
 obtain ⟨a1,c1,a2,c2,a3,c3,a4,c4,rfl,q1,q2,q3,q4,i0,i1,i2,i3,i4⟩:=h.open
 simp only at q1 q2 q3 q4 i0 i1 i2 i3 i4 ⊢
 have Q1:=hid q1
 have Q2:=hid q2
 have Q3:=hid q3
 have Q4:=hid q4
 clear h q1 q2 q3 q4
 have HT0:=hid (two_new w (PL id ld ep vr a1 isr c1 a2 reps c2 a3 add c3 a4 rem c4 mn) PZ)
 have G1:Hid (∀ W,Below w.heap.size w W→Calls Tryz.prog 107 #[.agg (PL id ld ep vr a1 isr c1 a2 reps c2 a3 add c3 a4 rem c4 mn),.func (.func 108) #[] #[]] W fun e w'=>∃ v',e=.returned v'∧PartM w' v' ⟨id,ld,ep,vr,isr,reps,add,rem,mn⟩∧InP (fun b=>W.heap.size≤b) v' ⟨id,ld,ep,vr,isr,reps,add,rem,mn⟩∧Below W.heap.size W w'):=fun W hb=>with_any ⟨_,_,_,_,rfl,Q1.out.under hb,Q2.out.under hb,Q3.out.under hb,Q4.out.under hb,i0,i1,i2,i3,i4⟩
 clear i0 i1 i2 i3 i4 Q1 Q2 Q3 Q4
 go_enter Tryz.func62,Tryz.ntmps62
 go_wp2_with fail
 generalize (w.alloc (.cells (PL id ld ep vr a1 isr c1 a2 reps c2 a3 add c3 a4 rem c4 mn) 54)).alloc (.cells PZ 54)=W0 at *
 refine (G1.out _ HT0.out.b).mono ?_
 rintro e W1 ⟨v',rfl,h1,h2,hb⟩
 obtain ⟨x1,y1,x2,y2,x3,y3,x4,y4,rfl,q1,q2,q3,q4,ii⟩:=h1.open
 obtain ⟨n1,n2,n3,n4⟩:=h2 _ _ _ _ _ _ _ _ _ rfl
 simp only at q1 q2 q3 q4 n1 n2 n3 n4 ii
 have HT1:=hid (HT0.out.next hb)
 have hs0:=HT0.out.s
 have HL:=hid (And.intro (ia_new q1 n1 hs0) (And.intro (ia_new q2 n2 hs0) (And.intro (ia_new q3 n3 hs0) (ia_new q4 n4 hs0))))
 have HN:Hid (InP (fun b=>w.heap.size≤b) (.agg (PL id ld ep vr x1 isr y1 x2 reps y2 x3 add y3 x4 rem y4 mn)) ⟨id,ld,ep,vr,isr,reps,add,rem,mn⟩):=h2.mono fun b hx=>by omega
 have HI:=hid ii
 clear q1 q2 q3 q4 n1 n2 n3 n4 ii h1 h2
 obtain ⟨z0,z1,z2,z3,z4,z5,z6,z7,z8⟩:=cells9 HT1.out.z
 have fz:=frz_blk HT1.out.z
 go_wp2_with fail
 clear z0 z1 z2 z3 z4 z5 z6 z7 z8 fz
 refine nineW (F:=bodyPost _ _ _ _ _) HT1.out rfl fun W9 HT9 hsz9 HOFF=>?_
 obtain ⟨r0,r1,r2,r3,r4,r5,r6,r7,r8⟩:=cells9 HT9.out.z
 exact bodyPost_ret (v:=.agg (PL id ld ep vr x1 isr y1 x2 reps y2 x3 add y3 x4 rem y4 mn)) (by simp [results,Tryz.results62,go_sem,r0,r1,r2,r3,r4,r5,r6,r7,r8]) rfl ⟨_,rfl,⟨_,_,_,_,rfl,HL.out.1.offz HOFF.out hsz9,HL.out.2.1.offz HOFF.out hsz9,HL.out.2.2.1.offz HOFF.out hsz9,HL.out.2.2.2.offz HOFF.out hsz9,HI.out⟩,HN.out,HT9.out.b⟩
end Go.Proofs.YtcffomhcmilcpaaGreat
