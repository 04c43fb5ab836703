/- Whether a state is right. -/
import Derived.Test.YtcffomhcmilcpaaGreatC0
set_option maxRecDepth 100000
set_option maxHeartbeats 20000000
set_option linter.unusedVariables false
set_option linter.unusedSimpArgs false
namespace Go.Proofs.YtcffomhcmilcpaaGreat
open Go.RowKit Go.Maps
theorem PartM.open {w:World} {v:Value} {p:Pt} (h:PartM w v p):∃ a1 c1 a2 c2 a3 c3 a4 c4,v=.agg (PP p a1 c1 a2 c2 a3 c3 a4 c4)∧IL w (.slice a1 p.isr.length c1) p.isr∧IL w (.slice a2 p.reps.length c2) p.reps∧IL w (.slice a3 p.add.length c3) p.add∧IL w (.slice a4 p.rem.length c4) p.rem∧I64 p.id∧I64 p.leader∧I64 p.epoch∧I64 p.ver∧I64 p.min:=by
 obtain ⟨a,b,c,d,rfl,h1,h2,h3,h4,h5⟩:=h
 obtain ⟨a1,c1,rfl,_⟩:=h1.shape
 obtain ⟨a2,c2,rfl,_⟩:=h2.shape
 obtain ⟨a3,c3,rfl,_⟩:=h3.shape
 obtain ⟨a4,c4,rfl,_⟩:=h4.shape
 exact ⟨a1,c1,a2,c2,a3,c3,a4,c4,rfl,h1,h2,h3,h4,h5⟩
theorem big64:I64 1000000000:=by unfold I64;omega
theorem nums_any {w:World} {v:Value} {p:Pt} (h:PartM w v p):Calls Tryz.prog 136 #[v] w fun e w'=>e=.returned (.bool (numB p))∧Below w.heap.size w w':=by
 obtain ⟨id,ld,ep,vr,isr,reps,add,rem,mn⟩:=p
 obtain ⟨a1,c1,a2,c2,a3,c3,a4,c4,rfl,q1,q2,q3,q4,i0,i1,i2,i3,i4⟩:=h.open
 simp only at q1 q2 q3 q4 i0 i1 i2 i3 i4 ⊢
 have Q1:=hid q1
 have Q2:=hid q2
 have Q3:=hid q3
 have Q4:=hid q4
 clear h q1 q2 q3 q4
 have HX:Hid ((w.alloc (.cells (PL id ld ep vr a1 isr c1 a2 reps c2 a3 add c3 a4 rem c4 mn) 54)).heap[w.heap.size]?=some (.cells (PL id ld ep vr a1 isr c1 a2 reps c2 a3 add c3 a4 rem c4 mn) 54)):=heap_alloc_new w _
 have HB:Hid (Below w.heap.size w (w.alloc (.cells (PL id ld ep vr a1 isr c1 a2 reps c2 a3 add c3 a4 rem c4 mn) 54))):=(Below.refl _ _).alloc (Nat.le_refl _) _
 have hsz:(w.alloc (.cells (PL id ld ep vr a1 isr c1 a2 reps c2 a3 add c3 a4 rem c4 mn) 54)).heap.size=w.heap.size+1:=by simp
 have HN:Hid (numB ⟨id,ld,ep,vr,isr,reps,add,rem,mn⟩=(upB id 16 && upB mn 5 && upB ep 1000000000 && upB vr 1000000000)):=rfl
 have G1:=hid (fun W=>isUpTo_any id 16 W i0 (by unfold I64;omega))
 have G2:=hid (fun W=>isUpTo_any mn 5 W i4 (by unfold I64;omega))
 have G3:=hid (fun W=>isUpTo_any ep 1000000000 W i2 big64)
 have G4:=hid (fun W=>isUpTo_any vr 1000000000 W i3 big64)
 rw [HN.out]
 generalize upB id 16=B1 at *
 generalize upB mn 5=B2 at *
 generalize upB ep 1000000000=B3 at *
 generalize upB vr 1000000000=B4 at *
 clear HN i0 i1 i2 i3 i4
 go_enter Tryz.func136,Tryz.ntmps136
 go_wp2_with fail
 refine (G1.out _).mono ?_
 rintro e w1 ⟨rfl,rfl⟩
 cases B1
 ·go_wp2_with fail
  go_ret
  exact ⟨by first | rfl | simp,HB.out⟩
 go_wp2_with fail
 refine (G2.out _).mono ?_
 rintro e w1 ⟨rfl,rfl⟩
 cases B2
 ·go_wp2_with fail
  go_ret
  exact ⟨by first | rfl | simp,HB.out⟩
 go_wp2_with fail
 refine (G3.out _).mono ?_
 rintro e w1 ⟨rfl,rfl⟩
 cases B3
 ·go_wp2_with fail
  go_ret
  exact ⟨by first | rfl | simp,HB.out⟩
 go_wp2_with fail
 refine (G4.out _).mono ?_
 rintro e w1 ⟨rfl,rfl⟩
 go_wp2_with fail
 go_ret
 exact ⟨by simp,HB.out⟩
theorem each_any {w:World} {v:Value} {p:Pt} (h:PartM w v p):Calls Tryz.prog 167 #[v,.func (.func 168) #[] #[]] w fun e w'=>e=.returned (.bool (eachB p))∧Below w.heap.size w w':=by
 obtain ⟨id,ld,ep,vr,isr,reps,add,rem,mn⟩:=p
 obtain ⟨a1,c1,a2,c2,a3,c3,a4,c4,rfl,q1,q2,q3,q4,i0,i1,i2,i3,i4⟩:=h.open
 simp only at q1 q2 q3 q4 i0 i1 i2 i3 i4 ⊢
 have Q1:=hid q1
 have Q2:=hid q2
 have Q3:=hid q3
 have Q4:=hid q4
 clear h q1 q2 q3 q4
 have HX:Hid ((w.alloc (.cells (PL id ld ep vr a1 isr c1 a2 reps c2 a3 add c3 a4 rem c4 mn) 54)).heap[w.heap.size]?=some (.cells (PL id ld ep vr a1 isr c1 a2 reps c2 a3 add c3 a4 rem c4 mn) 54)):=heap_alloc_new w _
 have HB:Hid (Below w.heap.size w (w.alloc (.cells (PL id ld ep vr a1 isr c1 a2 reps c2 a3 add c3 a4 rem c4 mn) 54))):=(Below.refl _ _).alloc (Nat.le_refl _) _
 have hsz:(w.alloc (.cells (PL id ld ep vr a1 isr c1 a2 reps c2 a3 add c3 a4 rem c4 mn) 54)).heap.size=w.heap.size+1:=by simp
 have HN:Hid (eachB ⟨id,ld,ep,vr,isr,reps,add,rem,mn⟩=(idsB isr && idsB reps && idsB add && idsB rem)):=rfl
 have G1:Hid (∀ W,Below w.heap.size w W→Calls Tryz.prog 168 #[.slice a1 isr.length c1] W fun e w'=>e=.returned (.bool (idsB isr))∧Below W.heap.size W w'):=fun W hb=>areRight_any (Q1.out.under hb)
 have G2:Hid (∀ W,Below w.heap.size w W→Calls Tryz.prog 168 #[.slice a2 reps.length c2] W fun e w'=>e=.returned (.bool (idsB reps))∧Below W.heap.size W w'):=fun W hb=>areRight_any (Q2.out.under hb)
 have G3:Hid (∀ W,Below w.heap.size w W→Calls Tryz.prog 168 #[.slice a3 add.length c3] W fun e w'=>e=.returned (.bool (idsB add))∧Below W.heap.size W w'):=fun W hb=>areRight_any (Q3.out.under hb)
 have G4:Hid (∀ W,Below w.heap.size w W→Calls Tryz.prog 168 #[.slice a4 rem.length c4] W fun e w'=>e=.returned (.bool (idsB rem))∧Below W.heap.size W w'):=fun W hb=>areRight_any (Q4.out.under hb)
 rw [HN.out]
 generalize idsB isr=B1 at *
 generalize idsB reps=B2 at *
 generalize idsB add=B3 at *
 generalize idsB rem=B4 at *
 clear HN i0 i1 i2 i3 i4 Q1 Q2 Q3 Q4
 go_enter Tryz.func167,Tryz.ntmps167
 go_wp2_with fail
 generalize w.alloc (.cells (PL id ld ep vr a1 isr c1 a2 reps c2 a3 add c3 a4 rem c4 mn) 54)=W0 at *
 refine (G1.out W0 HB.out).mono ?_
 rintro e W1 ⟨rfl,hb⟩
 have HB1:=hid (HB.out.trans (hb.mono HB.out.size))
 have HX1:=hid ((hb.block w.heap.size (by omega)).trans HX.out)
 have k:=cell_blk HX1.out 5 _ rfl
 have hsz1:w.heap.size+1≤W1.heap.size:=by have:=hb.size;omega
 clear hb
 cases B1
 ·go_wp2_with fail
  go_ret
  exact ⟨by first | rfl | simp,HB1.out⟩
 go_wp2_with fail
 refine (G2.out W1 HB1.out).mono ?_
 rintro e W2 ⟨rfl,hb⟩
 have HB2:=hid (HB1.out.trans (hb.mono HB1.out.size))
 have HX2:=hid ((hb.block w.heap.size (by omega)).trans HX1.out)
 have k:=cell_blk HX2.out 6 _ rfl
 have hsz2:w.heap.size+1≤W2.heap.size:=by have:=hb.size;omega
 clear hb
 cases B2
 ·go_wp2_with fail
  go_ret
  exact ⟨by first | rfl | simp,HB2.out⟩
 go_wp2_with fail
 refine (G3.out W2 HB2.out).mono ?_
 rintro e W3 ⟨rfl,hb⟩
 have HB3:=hid (HB2.out.trans (hb.mono HB2.out.size))
 have HX3:=hid ((hb.block w.heap.size (by omega)).trans HX2.out)
 have k:=cell_blk HX3.out 7 _ rfl
 have hsz3:w.heap.size+1≤W3.heap.size:=by have:=hb.size;omega
 clear hb
 cases B3
 ·go_wp2_with fail
  go_ret
  exact ⟨by first | rfl | simp,HB3.out⟩
 go_wp2_with fail
 refine (G4.out W3 HB3.out).mono ?_
 rintro e W4 ⟨rfl,hb⟩
 have HB4:=hid (HB3.out.trans (hb.mono HB3.out.size))
 have HX4:=hid ((hb.block w.heap.size (by omega)).trans HX3.out)
 go_wp2_with fail
 go_ret
 exact ⟨by simp,HB4.out⟩
theorem targets_any {w:World} {v:Value} {p:Pt} (h:PartM w v p):Calls Tryz.prog 170 #[v] w fun e w'=>∃ v',e=.returned v'∧IL w' v' (outL p.reps p.rem)∧Below w.heap.size w w':=by
 obtain ⟨id,ld,ep,vr,isr,reps,add,rem,mn⟩:=p
 obtain ⟨a1,c1,a2,c2,a3,c3,a4,c4,rfl,q1,q2,q3,q4,i0,i1,i2,i3,i4⟩:=h.open
 simp only at q1 q2 q3 q4 i0 i1 i2 i3 i4 ⊢
 have Q1:=hid q1
 have Q2:=hid q2
 have Q3:=hid q3
 have Q4:=hid q4
 clear h q1 q2 q3 q4
 have HX:Hid ((w.alloc (.cells (PL id ld ep vr a1 isr c1 a2 reps c2 a3 add c3 a4 rem c4 mn) 54)).heap[w.heap.size]?=some (.cells (PL id ld ep vr a1 isr c1 a2 reps c2 a3 add c3 a4 rem c4 mn) 54)):=heap_alloc_new w _
 have HB:Hid (Below w.heap.size w (w.alloc (.cells (PL id ld ep vr a1 isr c1 a2 reps c2 a3 add c3 a4 rem c4 mn) 54))):=(Below.refl _ _).alloc (Nat.le_refl _) _
 have hsz:(w.alloc (.cells (PL id ld ep vr a1 isr c1 a2 reps c2 a3 add c3 a4 rem c4 mn) 54)).heap.size=w.heap.size+1:=by simp
 have G1:=hid (those50_any (Q2.out.under HB.out) (Q4.out.under HB.out))
 clear i0 i1 i2 i3 i4 Q1 Q2 Q3 Q4
 go_enter Tryz.func170,Tryz.ntmps170
 go_wp2_with fail
 refine G1.out.mono ?_
 rintro e W1 ⟨v',rfl,hv,_,hb⟩
 obtain ⟨va,vc,rfl,_⟩:=hv.shape
 have HV:=hid hv
 clear hv
 go_wp2_with fail
 go_ret
 exact ⟨_,rfl,HV.out,HB.out.trans (hb.mono HB.out.size)⟩
theorem lb1 (a b c d e:Bool) (n m:Nat):(a && decide (0<n) && b && c && d && e && decide (0<m))=(a && (decide (0<n) && (b && (c && (d && (e && decide (0<m))))))):=by simp only [Bool.and_assoc]
theorem lists_any {w:World} {v:Value} {p:Pt} (h:PartM w v p):Calls Tryz.prog 137 #[v] w fun e w'=>e=.returned (.bool (listB p))∧Below w.heap.size w w':=by
 obtain ⟨id,ld,ep,vr,isr,reps,add,rem,mn⟩:=p
 obtain ⟨a1,c1,a2,c2,a3,c3,a4,c4,rfl,q1,q2,q3,q4,i0,i1,i2,i3,i4⟩:=h.open
 simp only at q1 q2 q3 q4 i0 i1 i2 i3 i4 ⊢
 have Q1:=hid q1
 have Q2:=hid q2
 have Q3:=hid q3
 have Q4:=hid q4
 clear h q1 q2 q3 q4
 have HX:Hid ((w.alloc (.cells (PL id ld ep vr a1 isr c1 a2 reps c2 a3 add c3 a4 rem c4 mn) 54)).heap[w.heap.size]?=some (.cells (PL id ld ep vr a1 isr c1 a2 reps c2 a3 add c3 a4 rem c4 mn) 54)):=heap_alloc_new w _
 have HB:Hid (Below w.heap.size w (w.alloc (.cells (PL id ld ep vr a1 isr c1 a2 reps c2 a3 add c3 a4 rem c4 mn) 54))):=(Below.refl _ _).alloc (Nat.le_refl _) _
 have hsz:(w.alloc (.cells (PL id ld ep vr a1 isr c1 a2 reps c2 a3 add c3 a4 rem c4 mn) 54)).heap.size=w.heap.size+1:=by simp
 have HN:Hid (listB ⟨id,ld,ep,vr,isr,reps,add,rem,mn⟩=(eachB ⟨id,ld,ep,vr,isr,reps,add,rem,mn⟩ && (decide (0<isr.length) && (isr.all (hasB reps) && (add.all (hasB reps) && (rem.all (hasB reps) && (rem.all (lackB add) && decide (0<(outL reps rem).length)))))))):=lb1 _ _ _ _ _ _ _
 have HP:Hid (∀ W,Below w.heap.size w W→PartM W (.agg (PL id ld ep vr a1 isr c1 a2 reps c2 a3 add c3 a4 rem c4 mn)) ⟨id,ld,ep,vr,isr,reps,add,rem,mn⟩):=fun W hb=>⟨_,_,_,_,rfl,Q1.out.under hb,Q2.out.under hb,Q3.out.under hb,Q4.out.under hb,i0,i1,i2,i3,i4⟩
 have G1:=hid (each_any (HP.out _ HB.out))
 have G2:Hid (∀ W,Below w.heap.size w W→Calls Tryz.prog 169 #[.slice a1 isr.length c1,.func (.func 138) #[] #[],.slice a2 reps.length c2] W fun e w'=>e=.returned (.bool (isr.all (hasB reps)))∧W=w'):=fun W hb=>areAll39_any (Q1.out.under hb) (Q2.out.under hb)
 have G3:Hid (∀ W,Below w.heap.size w W→Calls Tryz.prog 169 #[.slice a3 add.length c3,.func (.func 138) #[] #[],.slice a2 reps.length c2] W fun e w'=>e=.returned (.bool (add.all (hasB reps)))∧W=w'):=fun W hb=>areAll39_any (Q3.out.under hb) (Q2.out.under hb)
 have G4:Hid (∀ W,Below w.heap.size w W→Calls Tryz.prog 169 #[.slice a4 rem.length c4,.func (.func 138) #[] #[],.slice a2 reps.length c2] W fun e w'=>e=.returned (.bool (rem.all (hasB reps)))∧W=w'):=fun W hb=>areAll39_any (Q4.out.under hb) (Q2.out.under hb)
 have G5:Hid (∀ W,Below w.heap.size w W→Calls Tryz.prog 169 #[.slice a4 rem.length c4,.func (.func 158) #[] #[],.slice a3 add.length c3] W fun e w'=>e=.returned (.bool (rem.all (lackB add)))∧W=w'):=fun W hb=>areAll50_any (Q4.out.under hb) (Q3.out.under hb)
 have G6:Hid (∀ W,Below w.heap.size w W→Calls Tryz.prog 170 #[.agg (PL id ld ep vr a1 isr c1 a2 reps c2 a3 add c3 a4 rem c4 mn)] W fun e w'=>∃ v',e=.returned v'∧IL w' v' (outL reps rem)∧Below W.heap.size W w'):=fun W hb=>targets_any (HP.out W hb)
 rw [HN.out]
 generalize eachB ⟨id,ld,ep,vr,isr,reps,add,rem,mn⟩=B1 at *
 generalize isr.all (hasB reps)=B2 at *
 generalize add.all (hasB reps)=B3 at *
 generalize rem.all (hasB reps)=B4 at *
 generalize rem.all (lackB add)=B5 at *
 generalize outL reps rem=T at *
 clear HN i0 i1 i2 i3 i4 Q1 Q2 Q3 Q4
 go_enter Tryz.func137,Tryz.ntmps137
 go_wp2_with fail
 generalize w.alloc (.cells (PL id ld ep vr a1 isr c1 a2 reps c2 a3 add c3 a4 rem c4 mn) 54)=W0 at *
 refine G1.out.mono ?_
 rintro e W1 ⟨rfl,hb⟩
 have HB1:=hid (HB.out.trans (hb.mono HB.out.size))
 have HX1:=hid ((hb.block w.heap.size (by omega)).trans HX.out)
 clear hb
 obtain ⟨k0,k1,k2,k3,k4,k5,k6,k7,k8⟩:=cells9 HX1.out
 cases B1
 ·go_wp2_with fail
  go_ret
  exact ⟨by first | rfl | simp,HB1.out⟩
 by_cases h0:0<isr.length
 ·have h0':(0:Int)<(isr.length:Int):=by omega
  go_wp2_with fail
  refine (G2.out _ HB1.out).mono ?_
  rintro e w1 ⟨rfl,rfl⟩
  cases B2
  ·go_wp2_with fail
   go_ret
   exact ⟨ret_bool (by simp),HB1.out⟩
  go_wp2_with fail
  refine (G3.out _ HB1.out).mono ?_
  rintro e w1 ⟨rfl,rfl⟩
  cases B3
  ·go_wp2_with fail
   go_ret
   exact ⟨ret_bool (by simp),HB1.out⟩
  go_wp2_with fail
  refine (G4.out _ HB1.out).mono ?_
  rintro e w1 ⟨rfl,rfl⟩
  cases B4
  ·go_wp2_with fail
   go_ret
   exact ⟨ret_bool (by simp),HB1.out⟩
  go_wp2_with fail
  refine (G5.out _ HB1.out).mono ?_
  rintro e w1 ⟨rfl,rfl⟩
  cases B5
  ·go_wp2_with fail
   go_ret
   exact ⟨ret_bool (by simp),HB1.out⟩
  go_wp2_with fail
  refine (G6.out _ HB1.out).mono ?_
  rintro e W2 ⟨v',rfl,hv,hb⟩
  obtain ⟨va,vc,rfl,_⟩:=hv.shape
  have HB2:=hid (HB1.out.trans (hb.mono HB1.out.size))
  clear hv hb
  go_wp2_with fail
  go_ret
  exact ⟨ret_bool (by simp [h0]),HB2.out⟩
 ·have h0':¬ (0:Int)<(isr.length:Int):=by omega
  go_wp2_with fail
  go_ret
  exact ⟨ret_bool (by simp [h0]),HB1.out⟩
theorem right_any {w:World} {v:Value} {p:Pt} (h:PartM w v p):Calls Tryz.prog 96 #[v] w fun e w'=>e=.returned (.bool (rightB p))∧Below w.heap.size w w':=by
 obtain ⟨id,ld,ep,vr,isr,reps,add,rem,mn⟩:=p
 obtain ⟨a1,c1,a2,c2,a3,c3,a4,c4,rfl,q1,q2,q3,q4,i0,i1,i2,i3,i4⟩:=h.open
 simp only at q1 q2 q3 q4 i0 i1 i2 i3 i4 ⊢
 have Q1:=hid q1
 have Q2:=hid q2
 have Q3:=hid q3
 have Q4:=hid q4
 clear h q1 q2 q3 q4
 have HX:Hid ((w.alloc (.cells (PL id ld ep vr a1 isr c1 a2 reps c2 a3 add c3 a4 rem c4 mn) 54)).heap[w.heap.size]?=some (.cells (PL id ld ep vr a1 isr c1 a2 reps c2 a3 add c3 a4 rem c4 mn) 54)):=heap_alloc_new w _
 have HB:Hid (Below w.heap.size w (w.alloc (.cells (PL id ld ep vr a1 isr c1 a2 reps c2 a3 add c3 a4 rem c4 mn) 54))):=(Below.refl _ _).alloc (Nat.le_refl _) _
 have hsz:(w.alloc (.cells (PL id ld ep vr a1 isr c1 a2 reps c2 a3 add c3 a4 rem c4 mn) 54)).heap.size=w.heap.size+1:=by simp
 have HN:Hid (rightB ⟨id,ld,ep,vr,isr,reps,add,rem,mn⟩=(numB ⟨id,ld,ep,vr,isr,reps,add,rem,mn⟩ && listB ⟨id,ld,ep,vr,isr,reps,add,rem,mn⟩ && (decide (ld=0) || hasB isr ld))):=rfl
 have HP:Hid (∀ W,Below w.heap.size w W→PartM W (.agg (PL id ld ep vr a1 isr c1 a2 reps c2 a3 add c3 a4 rem c4 mn)) ⟨id,ld,ep,vr,isr,reps,add,rem,mn⟩):=fun W hb=>⟨_,_,_,_,rfl,Q1.out.under hb,Q2.out.under hb,Q3.out.under hb,Q4.out.under hb,i0,i1,i2,i3,i4⟩
 have G1:=hid (nums_any (HP.out _ HB.out))
 have G2:Hid (∀ W,Below w.heap.size w W→Calls Tryz.prog 137 #[.agg (PL id ld ep vr a1 isr c1 a2 reps c2 a3 add c3 a4 rem c4 mn)] W fun e w'=>e=.returned (.bool (listB ⟨id,ld,ep,vr,isr,reps,add,rem,mn⟩))∧Below W.heap.size W w'):=fun W hb=>lists_any (HP.out W hb)
 have G3:Hid (∀ W,Below w.heap.size w W→Calls Tryz.prog 138 #[.slice a1 isr.length c1,.int .i64 ld] W fun e w'=>e=.returned (.bool (hasB isr ld))∧W=w'):=fun W hb=>has_any (Q1.out.under hb) ld i1
 rw [HN.out]
 generalize numB ⟨id,ld,ep,vr,isr,reps,add,rem,mn⟩=B1 at *
 generalize listB ⟨id,ld,ep,vr,isr,reps,add,rem,mn⟩=B2 at *
 generalize hasB isr ld=B3 at *
 clear HN i0 i1 i2 i3 i4 Q1 Q2 Q3 Q4
 go_enter Tryz.func96,Tryz.ntmps96
 go_wp2_with fail
 generalize w.alloc (.cells (PL id ld ep vr a1 isr c1 a2 reps c2 a3 add c3 a4 rem c4 mn) 54)=W0 at *
 refine G1.out.mono ?_
 rintro e W1 ⟨rfl,hb⟩
 have HB1:=hid (HB.out.trans (hb.mono HB.out.size))
 have HX1:=hid ((hb.block w.heap.size (by omega)).trans HX.out)
 have hs1:w.heap.size+1≤W1.heap.size:=by have:=hb.size;omega
 clear hb
 obtain ⟨k0,k1,k2,k3,k4,k5,k6,k7,k8⟩:=cells9 HX1.out
 cases B1
 ·go_wp2_with fail
  go_ret
  exact ⟨by first | rfl | simp,HB1.out⟩
 go_wp2_with fail
 refine (G2.out _ HB1.out).mono ?_
 rintro e W2 ⟨rfl,hb⟩
 have HB2:=hid (HB1.out.trans (hb.mono HB1.out.size))
 have HX2:=hid ((hb.block w.heap.size (by omega)).trans HX1.out)
 clear hb
 have l1:=cell_blk HX2.out 1 _ rfl
 have l4:=cell_blk HX2.out 4 _ rfl
 cases B2
 ·go_wp2_with fail
  go_ret
  exact ⟨by first | rfl | simp,HB2.out⟩
 by_cases h0:ld=0
 ·subst h0
  go_wp2_with fail
  go_ret
  exact ⟨ret_bool (by simp),HB2.out⟩
 ·go_wp2_with fail
  refine (G3.out _ HB2.out).mono ?_
  rintro e w1 ⟨rfl,rfl⟩
  go_wp2_with fail
  go_ret
  exact ⟨ret_bool (by simp [h0]),HB2.out⟩
def Res (X:Nat→Prop) (w:World) (r:Pt × Int) (e:Ending) (w':World):Prop:=∃ v,e=.returned (.tuple #[v,.int .i64 r.2])∧PartM w' v r.1∧InP X v r.1∧Below w.heap.size w w'
theorem i64z:I64 0:=by unfold I64;omega
theorem partZ (w:World):PartM w (.agg PZ) Pt.zero:=⟨_,_,_,_,rfl,IL.nil _,IL.nil _,IL.nil _,IL.nil _,i64z,i64z,i64z,i64z,i64z⟩
theorem inZ (X:Nat→Prop):InP X (.agg PZ) Pt.zero:=inP_of (In.nil _ _) (In.nil _ _) (In.nil _ _) (In.nil _ _)
theorem res_err {X:Nat→Prop} {w w':World} (n:Int) (hb:Below w.heap.size w w'):Res X w (Pt.zero,n) (.returned (.tuple #[.agg PZ,.int .i64 n])) w':=⟨_,rfl,partZ _,inZ _,hb⟩
theorem changed_any {w:World} {v:Value} {p:Pt} {X:Nat→Prop} (h:PartM w v p) (hX:InP X v p) (l:Int) (hl:I64 l) (he:1≤p.epoch∧p.epoch≤1000000000) (hv:1≤p.ver∧p.ver≤1000000000):Calls Tryz.prog 159 #[v,.int .i64 l] w fun e w'=>Res X w (changedP p l) e w':=by
 obtain ⟨id,ld,ep,vr,isr,reps,add,rem,mn⟩:=p
 obtain ⟨a1,c1,a2,c2,a3,c3,a4,c4,rfl,q1,q2,q3,q4,i0,i1,i2,i3,i4⟩:=h.open
 simp only at q1 q2 q3 q4 i0 i1 i2 i3 i4 ⊢
 have Q1:=hid q1
 have Q2:=hid q2
 have Q3:=hid q3
 have Q4:=hid q4
 clear h q1 q2 q3 q4
 have HXX:=hid (hX _ _ _ _ _ _ _ _ _ rfl)
 clear hX
 simp only at he hv
 obtain ⟨he1,he2⟩:=he
 obtain ⟨hv1,hv2⟩:=hv
 have HC:Hid (changedP ⟨id,ld,ep,vr,isr,reps,add,rem,mn⟩ l=if overB (nextP ⟨id,ld,ep,vr,isr,reps,add,rem,mn⟩ l) then (Pt.zero,20) else (nextP ⟨id,ld,ep,vr,isr,reps,add,rem,mn⟩ l,0)):=rfl
 have HB2:Hid (∀ O1 O2,Below w.heap.size w ((w.alloc O1).alloc O2)):=fun O1 O2=>((Below.refl _ _).alloc (Nat.le_refl _) _).alloc (by simp) _
 by_cases h1:l=ld
 ·subst h1
  have HNx:Hid (nextP ⟨id,l,ep,vr,isr,reps,add,rem,mn⟩ l=⟨id,l,ep,vr+1,isr,reps,add,rem,mn⟩):=by show _=_;simp [nextP]
  rw [HNx.out] at HC
  by_cases h2:1000000000<vr+1
  ·have HO:Hid (changedP ⟨id,l,ep,vr,isr,reps,add,rem,mn⟩ l=(Pt.zero,20)):=by show _=_;rw [HC.out,if_pos (by simp [overB];omega)]
   rw [HO.out]
   clear HC HO HNx i0 i1 i2 i3 i4
   have h3:¬ 1000000000<ep:=by omega
   go_enter Tryz.func159,Tryz.ntmps159
   go_wp2_with fail
   exact bodyPost_ret (v:=.tuple #[.agg PZ,.int .i64 20]) (by simp [results,Tryz.results159,go_sem]) rfl (res_err 20 (HB2.out _ _))
  ·have HO:Hid (changedP ⟨id,l,ep,vr,isr,reps,add,rem,mn⟩ l=(⟨id,l,ep,vr+1,isr,reps,add,rem,mn⟩,0)):=by show _=_;rw [HC.out,if_neg (by simp [overB];omega)]
   rw [HO.out]
   have HI:Hid (I64 id∧I64 l∧I64 ep∧I64 (vr+1)∧I64 mn):=⟨i0,i1,i2,by unfold I64;omega,i4⟩
   clear HC HO HNx i0 i1 i2 i3 i4
   have h3:¬ 1000000000<ep:=by omega
   go_enter Tryz.func159,Tryz.ntmps159
   go_wp2_with fail
   exact bodyPost_ret (v:=.tuple #[.agg (PL id l ep (vr+1) a1 isr c1 a2 reps c2 a3 add c3 a4 rem c4 mn),.int .i64 0]) (by simp [results,Tryz.results159,go_sem]) rfl ⟨_,rfl,⟨_,_,_,_,rfl,Q1.out.under (HB2.out _ _),Q2.out.under (HB2.out _ _),Q3.out.under (HB2.out _ _),Q4.out.under (HB2.out _ _),HI.out⟩,inP_of HXX.out.1 HXX.out.2.1 HXX.out.2.2.1 HXX.out.2.2.2,HB2.out _ _⟩
 ·have HNx:Hid (nextP ⟨id,ld,ep,vr,isr,reps,add,rem,mn⟩ l=⟨id,l,ep+1,vr+1,isr,reps,add,rem,mn⟩):=by show _=_;simp [nextP,h1]
  rw [HNx.out] at HC
  by_cases h3:1000000000<ep+1
  ·have HO:Hid (changedP ⟨id,ld,ep,vr,isr,reps,add,rem,mn⟩ l=(Pt.zero,20)):=by show _=_;rw [HC.out,if_pos (by simp [overB];omega)]
   rw [HO.out]
   clear HC HO HNx i0 i1 i2 i3 i4
   go_enter Tryz.func159,Tryz.ntmps159
   go_wp2_with fail
   exact bodyPost_ret (v:=.tuple #[.agg PZ,.int .i64 20]) (by simp [results,Tryz.results159,go_sem]) rfl (res_err 20 (HB2.out _ _))
  ·by_cases h2:1000000000<vr+1
   ·have HO:Hid (changedP ⟨id,ld,ep,vr,isr,reps,add,rem,mn⟩ l=(Pt.zero,20)):=by show _=_;rw [HC.out,if_pos (by simp [overB];omega)]
    rw [HO.out]
    clear HC HO HNx i0 i1 i2 i3 i4
    go_enter Tryz.func159,Tryz.ntmps159
    go_wp2_with fail
    exact bodyPost_ret (v:=.tuple #[.agg PZ,.int .i64 20]) (by simp [results,Tryz.results159,go_sem]) rfl (res_err 20 (HB2.out _ _))
   ·have HO:Hid (changedP ⟨id,ld,ep,vr,isr,reps,add,rem,mn⟩ l=(⟨id,l,ep+1,vr+1,isr,reps,add,rem,mn⟩,0)):=by show _=_;rw [HC.out,if_neg (by simp [overB];omega)]
    rw [HO.out]
    have HI:Hid (I64 id∧I64 l∧I64 (ep+1)∧I64 (vr+1)∧I64 mn):=⟨i0,hl,by unfold I64;omega,by unfold I64;omega,i4⟩
    clear HC HO HNx i0 i1 i2 i3 i4
    go_enter Tryz.func159,Tryz.ntmps159
    go_wp2_with fail
    exact bodyPost_ret (v:=.tuple #[.agg (PL id l (ep+1) (vr+1) a1 isr c1 a2 reps c2 a3 add c3 a4 rem c4 mn),.int .i64 0]) (by simp [results,Tryz.results159,go_sem]) rfl ⟨_,rfl,⟨_,_,_,_,rfl,Q1.out.under (HB2.out _ _),Q2.out.under (HB2.out _ _),Q3.out.under (HB2.out _ _),Q4.out.under (HB2.out _ _),HI.out⟩,inP_of HXX.out.1 HXX.out.2.1 HXX.out.2.2.1 HXX.out.2.2.2,HB2.out _ _⟩
structure TwoB (w W:World) (cs zs:Array Value):Prop where
 x:W.heap[w.heap.size]?=some (.cells cs 54)
 z:W.heap[w.heap.size+1]?=some (.cells zs 54)
 b:Below w.heap.size w W
 s:w.heap.size+2≤W.heap.size
theorem two_new (w:World) (cs zs:Array Value):TwoB w ((w.alloc (.cells cs 54)).alloc (.cells zs 54)) cs zs:=by
 refine ⟨?_,?_,((Below.refl _ _).alloc (Nat.le_refl _) _).alloc (by simp) _,by simp⟩
 ·rw [Below.heap_alloc _ _ _ (by simp)];exact heap_alloc_new _ _
 ·have:=heap_alloc_new (w.alloc (.cells cs 54)) (.cells zs 54)
  rw [show (w.alloc (.cells cs 54)).heap.size=w.heap.size+1 by simp] at this
  exact this
theorem TwoB.next {w W W':World} {cs zs:Array Value} (h:TwoB w W cs zs) (hb:Below W.heap.size W W'):TwoB w W' cs zs:=by
 have:=h.s
 exact ⟨(hb.block _ (by omega)).trans h.x,(hb.block _ (by omega)).trans h.z,h.b.trans (hb.mono h.b.size),Nat.le_trans this hb.size⟩
theorem TwoB.drew {w W:World} {cs zs:Array Value} (h:TwoB w W cs zs):TwoB w W.drew cs zs:=h.next (Below.refl _ _).drew
theorem TwoB.alloc {w W:World} {cs zs:Array Value} (h:TwoB w W cs zs) (O:Obj):TwoB w (W.alloc O) cs zs:=h.next ((Below.refl _ _).alloc (Nat.le_refl _) _)
theorem TwoB.setx {w W:World} {cs zs:Array Value} (h:TwoB w W cs zs) (j:Nat) (u:Value):TwoB w (W.setCell ⟨w.heap.size,j,none⟩ u) (cs.setIfInBounds j u) zs :=
 ⟨set_box h.x,(Below.heap_setCell _ _ _ _ (by simp)).trans h.z,h.b.setCell (Nat.le_refl _) _,by have:=h.s;simpa using this⟩
theorem TwoB.setz {w W:World} {cs zs:Array Value} (h:TwoB w W cs zs) (j:Nat) (u:Value):TwoB w (W.setCell ⟨w.heap.size+1,j,none⟩ u) cs (zs.setIfInBounds j u) :=
 ⟨(Below.heap_setCell _ _ _ _ (by simp)).trans h.x,set_box h.z,h.b.setCell (by simp) _,by have:=h.s;simpa using this⟩
def IA (w W:World) (v:Value) (l:List Int):Prop:=IL W v l∧In (fun b=>b<w.heap.size∨w.heap.size+2≤b) v l
theorem IA.under {w W W':World} {v:Value} {l:List Int} (h:IA w W v l) (hb:Below W.heap.size W W'):IA w W' v l:=⟨h.1.under hb,h.2⟩
theorem IA.set {w W:World} {v:Value} {l:List Int} (h:IA w W v l) {q:Nat} (hq:q=w.heap.size∨q=w.heap.size+1) (j:Nat) (u:Value):IA w (W.setCell ⟨q,j,none⟩ u) v l :=
 ⟨h.1.off (q:=q) (h.2.mono fun b hb=>by omega) (fun b hb=>Below.heap_setCell _ _ _ _ hb) (by simp),h.2⟩
theorem ia_new {w W W':World} {v:Value} {l:List Int} (h:IL W' v l) (hn:In (fun b=>W.heap.size≤b) v l) (hs:w.heap.size+2≤W.heap.size):IA w W' v l:=⟨h,hn.mono fun b hb=>.inr (by omega)⟩
theorem IA.offz {w W W':World} {v:Value} {l:List Int} (h:IA w W v l) (hb:∀ b,b≠w.heap.size+1→W'.heap[b]?=W.heap[b]?) (hs:W.heap.size≤W'.heap.size):IL W' v l:=h.1.off (q:=w.heap.size+1) (h.2.mono fun b hb=>by omega) hb hs
theorem nine_z {w W:World} {cs zs:Array Value} (h:TwoB w W cs zs) (hz:zs.size=9) (v0 v1 v2 v3 v4 v5 v6 v7 v8:Value) :
  TwoB w (((((((((W.setCell ⟨w.heap.size+1,0,none⟩ v0).setCell ⟨w.heap.size+1,1,none⟩ v1).setCell ⟨w.heap.size+1,2,none⟩ v2).setCell ⟨w.heap.size+1,3,none⟩ v3).setCell ⟨w.heap.size+1,4,none⟩ v4).setCell ⟨w.heap.size+1,5,none⟩ v5).setCell ⟨w.heap.size+1,6,none⟩ v6).setCell ⟨w.heap.size+1,7,none⟩ v7).setCell ⟨w.heap.size+1,8,none⟩ v8) cs #[v0,v1,v2,v3,v4,v5,v6,v7,v8]:=by
 obtain ⟨l⟩:=zs
 match l,hz,h with
 | [z0,z1,z2,z3,z4,z5,z6,z7,z8],_,h =>
  have h0:TwoB w _ cs #[v0,z1,z2,z3,z4,z5,z6,z7,z8]:=h.setz 0 v0
  have h1:TwoB w _ cs #[v0,v1,z2,z3,z4,z5,z6,z7,z8]:=h0.setz 1 v1
  have h2:TwoB w _ cs #[v0,v1,v2,z3,z4,z5,z6,z7,z8]:=h1.setz 2 v2
  have h3:TwoB w _ cs #[v0,v1,v2,v3,z4,z5,z6,z7,z8]:=h2.setz 3 v3
  have h4:TwoB w _ cs #[v0,v1,v2,v3,v4,z5,z6,z7,z8]:=h3.setz 4 v4
  have h5:TwoB w _ cs #[v0,v1,v2,v3,v4,v5,z6,z7,z8]:=h4.setz 5 v5
  have h6:TwoB w _ cs #[v0,v1,v2,v3,v4,v5,v6,z7,z8]:=h5.setz 6 v6
  have h7:TwoB w _ cs #[v0,v1,v2,v3,v4,v5,v6,v7,z8]:=h6.setz 7 v7
  have h8:TwoB w _ cs #[v0,v1,v2,v3,v4,v5,v6,v7,v8]:=h7.setz 8 v8
  exact h8
theorem nine_off (W:World) (q:Nat) (v0 v1 v2 v3 v4 v5 v6 v7 v8:Value) :
  (∀ b,b≠q→(((((((((W.setCell ⟨q,0,none⟩ v0).setCell ⟨q,1,none⟩ v1).setCell ⟨q,2,none⟩ v2).setCell ⟨q,3,none⟩ v3).setCell ⟨q,4,none⟩ v4).setCell ⟨q,5,none⟩ v5).setCell ⟨q,6,none⟩ v6).setCell ⟨q,7,none⟩ v7).setCell ⟨q,8,none⟩ v8).heap[b]?=W.heap[b]?) ∧
  W.heap.size≤(((((((((W.setCell ⟨q,0,none⟩ v0).setCell ⟨q,1,none⟩ v1).setCell ⟨q,2,none⟩ v2).setCell ⟨q,3,none⟩ v3).setCell ⟨q,4,none⟩ v4).setCell ⟨q,5,none⟩ v5).setCell ⟨q,6,none⟩ v6).setCell ⟨q,7,none⟩ v7).setCell ⟨q,8,none⟩ v8).heap.size:=by
 have hz:∀ (W:World) (a:Addr) (u:Value),(W.setCell a u).heap.size=W.heap.size:=fun W a u=>by simp
 refine ⟨fun b hb=>?_,?_⟩
 ·exact (Below.heap_setCell _ _ _ _ hb).trans ((Below.heap_setCell _ _ _ _ hb).trans ((Below.heap_setCell _ _ _ _ hb).trans ((Below.heap_setCell _ _ _ _ hb).trans ((Below.heap_setCell _ _ _ _ hb).trans ((Below.heap_setCell _ _ _ _ hb).trans ((Below.heap_setCell _ _ _ _ hb).trans ((Below.heap_setCell _ _ _ _ hb).trans (Below.heap_setCell _ _ _ _ hb))))))))
 ·rw [hz,hz,hz,hz,hz,hz,hz,hz,hz];exact Nat.le_refl _
theorem nineW {F:World→Prop} {w W:World} {cs zs:Array Value} {v0 v1 v2 v3 v4 v5 v6 v7 v8:Value} (h:TwoB w W cs zs) (hz:zs.size=9) (k:∀ N,Hid (TwoB w N cs #[v0,v1,v2,v3,v4,v5,v6,v7,v8])→W.heap.size≤N.heap.size→Hid (∀ b,b≠w.heap.size+1→N.heap[b]?=W.heap[b]?)→F N) :
  F (((((((((W.setCell ⟨w.heap.size+1,0,none⟩ v0).setCell ⟨w.heap.size+1,1,none⟩ v1).setCell ⟨w.heap.size+1,2,none⟩ v2).setCell ⟨w.heap.size+1,3,none⟩ v3).setCell ⟨w.heap.size+1,4,none⟩ v4).setCell ⟨w.heap.size+1,5,none⟩ v5).setCell ⟨w.heap.size+1,6,none⟩ v6).setCell ⟨w.heap.size+1,7,none⟩ v7).setCell ⟨w.heap.size+1,8,none⟩ v8) :=
 k _ (hid (nine_z h hz v0 v1 v2 v3 v4 v5 v6 v7 v8)) (nine_off W (w.heap.size+1) v0 v1 v2 v3 v4 v5 v6 v7 v8).2 (hid (nine_off W (w.heap.size+1) v0 v1 v2 v3 v4 v5 v6 v7 v8).1)
theorem ret9 {fn:Func} {R:Ending→World→Prop} {a:Act} {N:World} {b i j:Nat} {v0 v1 v2 v3 v4 v5 v6 v7 v8 n:Value} (hr:fn.results=#[.cell i 54,.tmp j]) (hN:N.heap[b]?=some (.cells #[v0,v1,v2,v3,v4,v5,v6,v7,v8] 54)) (hi:a.tmps.getD i undef=.pointer (some ⟨b,0,none⟩)) (hj:a.tmps.getD j undef=n) (hd:a.defers=[]) (hR:R (.returned (.tuple #[.agg #[v0,v1,v2,v3,v4,v5,v6,v7,v8],n])) N):bodyPost Tryz.prog fn R .ret a N:=by
 obtain ⟨r0,r1,r2,r3,r4,r5,r6,r7,r8⟩:=cells9 hN
 refine bodyPost_ret (v:=.tuple #[.agg #[v0,v1,v2,v3,v4,v5,v6,v7,v8],n]) ?_ hd hR
 have hi':a.tmps[i]?.getD undef=.pointer (some ⟨b,0,none⟩):=by rw [← hi];simp
 have hj':a.tmps[j]?.getD undef=n:=by rw [← hj];simp
 simp [results,hr,hi',hj',go_sem,r0,r1,r2,r3,r4,r5,r6,r7,r8]
theorem leaf9 {fn:Func} {R:Ending→World→Prop} {a:Act} {w W:World} {cs zs:Array Value} {i j:Nat} {v0 v1 v2 v3 v4 v5 v6 v7 v8 n:Value} (h:TwoB w W cs zs) (hz:zs.size=9) (hr:fn.results=#[.cell i 54,.tmp j]) (hi:a.tmps.getD i undef=.pointer (some ⟨w.heap.size+1,0,none⟩)) (hj:a.tmps.getD j undef=n) (hd:a.defers=[]) (k:∀ N,Hid (TwoB w N cs #[v0,v1,v2,v3,v4,v5,v6,v7,v8])→W.heap.size≤N.heap.size→Hid (∀ b,b≠w.heap.size+1→N.heap[b]?=W.heap[b]?)→R (.returned (.tuple #[.agg #[v0,v1,v2,v3,v4,v5,v6,v7,v8],n])) N) :
  bodyPost Tryz.prog fn R .ret a (((((((((W.setCell ⟨w.heap.size+1,0,none⟩ v0).setCell ⟨w.heap.size+1,1,none⟩ v1).setCell ⟨w.heap.size+1,2,none⟩ v2).setCell ⟨w.heap.size+1,3,none⟩ v3).setCell ⟨w.heap.size+1,4,none⟩ v4).setCell ⟨w.heap.size+1,5,none⟩ v5).setCell ⟨w.heap.size+1,6,none⟩ v6).setCell ⟨w.heap.size+1,7,none⟩ v7).setCell ⟨w.heap.size+1,8,none⟩ v8) :=
 nineW h hz fun N h1 h2 h3=>ret9 hr h1.out.z hi hj hd (k N h1 h2 h3)
end Go.Proofs.YtcffomhcmilcpaaGreat
