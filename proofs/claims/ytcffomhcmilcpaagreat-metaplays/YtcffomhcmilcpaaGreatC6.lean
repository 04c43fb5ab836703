/- Fence. -/
import Derived.Test.YtcffomhcmilcpaaGreatC3
import Derived.Deep.RegionHeld3
import Derived.Deep.CutBlock
import Derived.Deep.CutRange
set_option maxRecDepth 100000
set_option maxHeartbeats 20000000
set_option linter.unusedVariables false
set_option linter.unusedSimpArgs false
namespace Go.Proofs.YtcffomhcmilcpaaGreat
open Go.RowKit Go.Maps
theorem fence_any {w:World} {v u:Value} {p:Pt} {up:List Int} (h:PartM w v p) (b:Int) (hb0:I64 b) (hu:IL w u up) :
    Calls Tryz.prog 156 #[v,.int .i64 b,u] w fun e w'=>Res (fun b=>w.heap.size≤b) w (fenceP p b up) e w':=by
  obtain ⟨id,ld,ep,vr,isr,reps,add,rem,mn⟩:=p
  obtain ⟨a1,c1,a2,c2,a3,c3,a4,c4,rfl,q1,q2,q3,q4,i0,i1,i2,i3,i4⟩:=h.open
  simp only at q1 q2 q3 q4 i0 i1 i2 i3 i4 ⊢
  have Q1:=hid q1
  have Q2:=hid q2
  have Q3:=hid q3
  have Q4:=hid q4
  clear h q1 q2 q3 q4
  obtain ⟨ua,uc,rfl,_⟩:=hu.shape
  have QU:=hid hu
  have HT0:=hid (two_new w (PL id ld ep vr a1 isr c1 a2 reps c2 a3 add c3 a4 rem c4 mn) PZ)
  have G12:Hid (∀ W,Below w.heap.size w W→Calls Tryz.prog 96 #[.agg (PL id ld ep vr a1 isr c1 a2 reps c2 a3 add c3 a4 rem c4 mn)] W fun e w'=>e=.returned (.bool (rightB ⟨id,ld,ep,vr,isr,reps,add,rem,mn⟩))∧Below W.heap.size W w'):=fun W hb=>right_any ⟨_,_,_,_,rfl,Q1.out.under hb,Q2.out.under hb,Q3.out.under hb,Q4.out.under hb,i0,i1,i2,i3,i4⟩
  have G15:Hid (∀ W,Below w.heap.size w W→Calls Tryz.prog 62 #[.agg (PL id ld ep vr a1 isr c1 a2 reps c2 a3 add c3 a4 rem c4 mn)] W fun e w'=>∃ v',e=.returned v'∧PartM w' v' ⟨id,ld,ep,vr,isr,reps,add,rem,mn⟩∧InP (fun b=>W.heap.size≤b) v' ⟨id,ld,ep,vr,isr,reps,add,rem,mn⟩∧Below W.heap.size W w'):=fun W hb=>clone_any ⟨_,_,_,_,rfl,Q1.out.under hb,Q2.out.under hb,Q3.out.under hb,Q4.out.under hb,i0,i1,i2,i3,i4⟩
  have G58:=hid (fun W=>isBroker_any b W hb0)
  have G49:Hid (∀ W y,Below w.heap.size w W→IL W y [b]→Calls Tryz.prog 181 #[.slice a1 isr.length c1,.func (.func 158) #[] #[],y] W fun e w'=>∃ v',e=.returned v'∧IL w' v' (outL isr [b])∧In (fun b=>W.heap.size≤b) v' (outL isr [b])∧Below W.heap.size W w'):=fun W y hb hy=>those50_any (Q1.out.under hb) hy
  have HI:Hid (I64 id∧I64 ld∧I64 ep∧I64 vr∧I64 mn):=⟨i0,i1,i2,i3,i4⟩
  have G59:Hid (∀ W m1 m2 x2 y2 x3 y3 x4 y4,Below w.heap.size w W→IL W (.slice m1 (fenIsr ⟨id,ld,ep,vr,isr,reps,add,rem,mn⟩ b).length m2) (fenIsr ⟨id,ld,ep,vr,isr,reps,add,rem,mn⟩ b)→IL W (.slice x2 reps.length y2) reps→IL W (.slice x3 add.length y3) add→IL W (.slice x4 rem.length y4) rem→Calls Tryz.prog 182 #[.agg #[.int .i64 id,.int .i64 ld,.int .i64 ep,.int .i64 vr,.slice m1 (fenIsr ⟨id,ld,ep,vr,isr,reps,add,rem,mn⟩ b).length m2,.slice x2 reps.length y2,.slice x3 add.length y3,.slice x4 rem.length y4,.int .i64 mn],.slice ua up.length uc] W fun e w'=>e=.returned (.int .i64 (heirP ⟨id,ld,ep,vr,fenIsr ⟨id,ld,ep,vr,isr,reps,add,rem,mn⟩ b,reps,add,rem,mn⟩ up))∧I64 (heirP ⟨id,ld,ep,vr,fenIsr ⟨id,ld,ep,vr,isr,reps,add,rem,mn⟩ b,reps,add,rem,mn⟩ up)∧Below W.heap.size W w'):=fun W m1 m2 x2 y2 x3 y3 x4 y4 hb g1 g2 g3 g4=>heir_any ⟨_,_,_,_,rfl,g1,g2,g3,g4,HI.out⟩ (QU.out.under hb)
  have HE:Hid (fenceP ⟨id,ld,ep,vr,isr,reps,add,rem,mn⟩ b up=if !rightB ⟨id,ld,ep,vr,isr,reps,add,rem,mn⟩ || !upB b 7 then (Pt.zero,1) else if (if ld=b then heirP ⟨id,ld,ep,vr,fenIsr ⟨id,ld,ep,vr,isr,reps,add,rem,mn⟩ b,reps,add,rem,mn⟩ up else ld)=ld∧(fenIsr ⟨id,ld,ep,vr,isr,reps,add,rem,mn⟩ b).length=isr.length then (⟨id,ld,ep,vr,fenIsr ⟨id,ld,ep,vr,isr,reps,add,rem,mn⟩ b,reps,add,rem,mn⟩,0) else changedP ⟨id,ld,ep,vr,fenIsr ⟨id,ld,ep,vr,isr,reps,add,rem,mn⟩ b,reps,add,rem,mn⟩ (if ld=b then heirP ⟨id,ld,ep,vr,fenIsr ⟨id,ld,ep,vr,isr,reps,add,rem,mn⟩ b,reps,add,rem,mn⟩ up else ld)):=rfl
  have HF1:Hid (1<isr.length→fenIsr ⟨id,ld,ep,vr,isr,reps,add,rem,mn⟩ b=outL isr [b]):=fun h=>if_pos h
  have HF2:Hid (¬ 1<isr.length→fenIsr ⟨id,ld,ep,vr,isr,reps,add,rem,mn⟩ b=isr):=fun h=>if_neg h
  have HBD:Hid (rightB ⟨id,ld,ep,vr,isr,reps,add,rem,mn⟩=true→(1≤ep∧ep≤1000000000)∧(1≤vr∧vr≤1000000000)):=fun e=>⟨(rightB_iff.1 e).epoch,(rightB_iff.1 e).ver⟩
  generalize fenceP ⟨id,ld,ep,vr,isr,reps,add,rem,mn⟩ b up=r at *
  generalize fenIsr ⟨id,ld,ep,vr,isr,reps,add,rem,mn⟩ b=T at *
  generalize heirP ⟨id,ld,ep,vr,T,reps,add,rem,mn⟩ up=H at *
  generalize rightB ⟨id,ld,ep,vr,isr,reps,add,rem,mn⟩=B1 at *
  generalize upB b 7=B2 at *
  clear QU hu i0 i1 i2 i3 i4 Q1 Q2 Q3 Q4
  go_enter Tryz.func156,Tryz.ntmps156
  go_wp2_with fail
  generalize (w.alloc (.cells (PL id ld ep vr a1 isr c1 a2 reps c2 a3 add c3 a4 rem c4 mn) 54)).alloc (.cells PZ 54)=W0 at *
  refine (G12.out _ HT0.out.b).mono ?_
  rintro e W1 ⟨rfl,hb⟩
  have HT1:=hid (HT0.out.next hb)
  clear hb
  obtain ⟨k0,k1,k2,k3,k4,k5,k6,k7,k8⟩:=cells9 HT1.out.x
  obtain ⟨z0,z1,z2,z3,z4,z5,z6,z7,z8⟩:=cells9 HT1.out.z
  have fx:=frz_blk HT1.out.x
  have fz:=frz_blk HT1.out.z
  cases B1
  · have HR:Hid (r=(Pt.zero,1)):=by show _=_;rw [HE.out];simp
    go_wp2_with fail
    exact leaf9 HT1.out rfl Tryz.results156 (n:=.int .i64 1) rfl rfl rfl fun W9 HT9 hsz9 HOFF=>(by rw [HR.out];exact res_err _ HT9.out.b)
  obtain ⟨hep,hvr⟩:=HBD.out rfl
  go_wp2_with fail
  refine (G58.out _).mono ?_
  rintro e W2 ⟨rfl,rfl⟩
  cases B2
  · have HR:Hid (r=(Pt.zero,1)):=by show _=_;rw [HE.out];simp
    go_wp2_with fail
    exact leaf9 HT1.out rfl Tryz.results156 (n:=.int .i64 1) rfl rfl rfl fun W9 HT9 hsz9 HOFF=>(by rw [HR.out];exact res_err _ HT9.out.b)
  have HE':Hid (r=if (if ld=b then H else ld)=ld∧T.length=isr.length then (⟨id,ld,ep,vr,T,reps,add,rem,mn⟩,0) else changedP ⟨id,ld,ep,vr,T,reps,add,rem,mn⟩ (if ld=b then H else ld)):=by show _=_;rw [HE.out];simp
  clear HE HBD
  have HE:=hid HE'.out
  clear HE'
  go_upto_region 3 with fail
  go_cut [8,9] from 19 to 22 (fun s8 s9 W=>∃ q x1 y1 x2 y2 x3 y3 x4 y4,s8=.pointer (some ⟨q,0,none⟩)∧s9=.int .i64 ld∧Hid (ThreeB w W q (PL id ld ep vr a1 isr c1 a2 reps c2 a3 add c3 a4 rem c4 mn) PZ (PL id ld ep vr x1 isr y1 x2 reps y2 x3 add y3 x4 rem y4 mn)∧LN w W q (.slice x1 isr.length y1) isr∧LN w W q (.slice x2 reps.length y2) reps∧LN w W q (.slice x3 add.length y3) add∧LN w W q (.slice x4 rem.length y4) rem))
  case first =>
    have hs1:=HT1.out.s
    have HSZ:=hid hs1
    have hs1':w.heap.size<W1.heap.size:=by omega
    have hs1a:¬ w.heap.size=W1.heap.size:=by omega
    have hs1b:¬ W1.heap.size=w.heap.size:=by omega
    have HZQ:=hid (three_new HT1.out PZ)
    have HZQd:=hid (three_new HT1.out.drew PZ)
    go_region_with (first
      | (go_at_call 62;refine (G15.out _ (by first | exact HT1.out.b | exact HT1.out.b.drew)).mono ?_;rintro e W2 ⟨v',rfl,h1,h2,hb⟩;have H1:=hid h1;have H2:=hid h2;have HT2:Hid (TwoB w W2 (PL id ld ep vr a1 isr c1 a2 reps c2 a3 add c3 a4 rem c4 mn) PZ):=(by first | exact HT1.out.next hb | exact HT1.out.drew.next hb);have hs2:w.heap.size<W2.heap.size:=(by have:=HT2.out.s;omega);obtain ⟨x1,y1,x2,y2,x3,y3,x4,y4,rfl,_⟩:=h1.open;clear h1 h2 hb;have k1:=cell_blk HT2.out.x 1 _ rfl)
      | (go_at_call 62;refine (G15.out _ (by first | exact HZQ.out.t.b | exact HZQd.out.t.b)).mono ?_;rintro e W2 ⟨v',rfl,h1,h2,hb⟩;have H1:=hid h1;have H2:=hid h2;have HQ2:Hid (ThreeB w W2 W1.heap.size (PL id ld ep vr a1 isr c1 a2 reps c2 a3 add c3 a4 rem c4 mn) PZ PZ):=(by first | exact HZQ.out.next hb | exact HZQd.out.next hb);obtain ⟨x1,y1,x2,y2,x3,y3,x4,y4,rfl,_⟩:=h1.open;clear h1 h2 hb;have k1:=cell_blk HQ2.out.t.x 1 _ rfl;have n0:=cell_blk HQ2.out.n 0 _ rfl;have n1:=cell_blk HQ2.out.n 1 _ rfl;have n2:=cell_blk HQ2.out.n 2 _ rfl;have n3:=cell_blk HQ2.out.n 3 _ rfl;have n4:=cell_blk HQ2.out.n 4 _ rfl;have n5:=cell_blk HQ2.out.n 5 _ rfl;have n6:=cell_blk HQ2.out.n 6 _ rfl;have n7:=cell_blk HQ2.out.n 7 _ rfl;have n8:=cell_blk HQ2.out.n 8 _ rfl;have fq:=frz_blk HQ2.out.n)
      | fail)
    all_goals
      obtain ⟨_,_,_,_,e9,q1,q2,q3,q4,_⟩:=H1.out
      cases e9
      obtain ⟨n1,n2,n3,n4⟩:=H2.out _ _ _ _ _ _ _ _ _ rfl
      simp only at q1 q2 q3 q4 n1 n2 n3 n4
      first
      | (have hHT2:=HT2.out
         have HQ:Hid (ThreeB w (W2.alloc (.cells (PL id ld ep vr x1 isr y1 x2 reps y2 x3 add y3 x4 rem y4 mn) 54)) W2.heap.size (PL id ld ep vr a1 isr c1 a2 reps c2 a3 add c3 a4 rem c4 mn) PZ (PL id ld ep vr x1 isr y1 x2 reps y2 x3 add y3 x4 rem y4 mn)∧LN w (W2.alloc (.cells (PL id ld ep vr x1 isr y1 x2 reps y2 x3 add y3 x4 rem y4 mn) 54)) W2.heap.size (.slice x1 isr.length y1) isr∧LN w (W2.alloc (.cells (PL id ld ep vr x1 isr y1 x2 reps y2 x3 add y3 x4 rem y4 mn) 54)) W2.heap.size (.slice x2 reps.length y2) reps∧LN w (W2.alloc (.cells (PL id ld ep vr x1 isr y1 x2 reps y2 x3 add y3 x4 rem y4 mn) 54)) W2.heap.size (.slice x3 add.length y3) add∧LN w (W2.alloc (.cells (PL id ld ep vr x1 isr y1 x2 reps y2 x3 add y3 x4 rem y4 mn) 54)) W2.heap.size (.slice x4 rem.length y4) rem):=⟨three_new HT2.out _,ln_old q1 (n1.mono fun b hb=>Nat.le_trans HSZ.out hb) _,ln_old q2 (n2.mono fun b hb=>Nat.le_trans HSZ.out hb) _,ln_old q3 (n3.mono fun b hb=>Nat.le_trans HSZ.out hb) _,ln_old q4 (n4.mono fun b hb=>Nat.le_trans HSZ.out hb) _⟩
         clear hHT2 HT2 hs2 k1 q1 q2 q3 q4 n1 n2 n3 n4 H1 H2
         generalize W2.alloc (.cells (PL id ld ep vr x1 isr y1 x2 reps y2 x3 add y3 x4 rem y4 mn) 54)=W3 at *
         generalize W2.heap.size=q at *
         go_wp2_with fail
         go_meet
         case rel=>exact ⟨q,x1,y1,x2,y2,x3,y3,x4,y4,rfl,rfl,HQ.out⟩)
      | (have hq1:W1.heap.size<(W1.alloc (.cells PZ 54)).heap.size:=by simp
         have LA:=hid (And.intro (ln_new (w:=w) (q:=W1.heap.size) q1 n1 hq1 HSZ.out) (And.intro (ln_new (w:=w) (q:=W1.heap.size) q2 n2 hq1 HSZ.out) (And.intro (ln_new (w:=w) (q:=W1.heap.size) q3 n3 hq1 HSZ.out) (ln_new (w:=w) (q:=W1.heap.size) q4 n4 hq1 HSZ.out))))
         have HQ:Hid (ThreeB w (((((((((W2.setCell ⟨W1.heap.size,0,none⟩ (.int .i64 id)).setCell ⟨W1.heap.size,1,none⟩ (.int .i64 ld)).setCell ⟨W1.heap.size,2,none⟩ (.int .i64 ep)).setCell ⟨W1.heap.size,3,none⟩ (.int .i64 vr)).setCell ⟨W1.heap.size,4,none⟩ (.slice x1 isr.length y1)).setCell ⟨W1.heap.size,5,none⟩ (.slice x2 reps.length y2)).setCell ⟨W1.heap.size,6,none⟩ (.slice x3 add.length y3)).setCell ⟨W1.heap.size,7,none⟩ (.slice x4 rem.length y4)).setCell ⟨W1.heap.size,8,none⟩ (.int .i64 mn)) W1.heap.size (PL id ld ep vr a1 isr c1 a2 reps c2 a3 add c3 a4 rem c4 mn) PZ (PL id ld ep vr x1 isr y1 x2 reps y2 x3 add y3 x4 rem y4 mn)∧LN w (((((((((W2.setCell ⟨W1.heap.size,0,none⟩ (.int .i64 id)).setCell ⟨W1.heap.size,1,none⟩ (.int .i64 ld)).setCell ⟨W1.heap.size,2,none⟩ (.int .i64 ep)).setCell ⟨W1.heap.size,3,none⟩ (.int .i64 vr)).setCell ⟨W1.heap.size,4,none⟩ (.slice x1 isr.length y1)).setCell ⟨W1.heap.size,5,none⟩ (.slice x2 reps.length y2)).setCell ⟨W1.heap.size,6,none⟩ (.slice x3 add.length y3)).setCell ⟨W1.heap.size,7,none⟩ (.slice x4 rem.length y4)).setCell ⟨W1.heap.size,8,none⟩ (.int .i64 mn)) W1.heap.size (.slice x1 isr.length y1) isr∧LN w (((((((((W2.setCell ⟨W1.heap.size,0,none⟩ (.int .i64 id)).setCell ⟨W1.heap.size,1,none⟩ (.int .i64 ld)).setCell ⟨W1.heap.size,2,none⟩ (.int .i64 ep)).setCell ⟨W1.heap.size,3,none⟩ (.int .i64 vr)).setCell ⟨W1.heap.size,4,none⟩ (.slice x1 isr.length y1)).setCell ⟨W1.heap.size,5,none⟩ (.slice x2 reps.length y2)).setCell ⟨W1.heap.size,6,none⟩ (.slice x3 add.length y3)).setCell ⟨W1.heap.size,7,none⟩ (.slice x4 rem.length y4)).setCell ⟨W1.heap.size,8,none⟩ (.int .i64 mn)) W1.heap.size (.slice x2 reps.length y2) reps∧LN w (((((((((W2.setCell ⟨W1.heap.size,0,none⟩ (.int .i64 id)).setCell ⟨W1.heap.size,1,none⟩ (.int .i64 ld)).setCell ⟨W1.heap.size,2,none⟩ (.int .i64 ep)).setCell ⟨W1.heap.size,3,none⟩ (.int .i64 vr)).setCell ⟨W1.heap.size,4,none⟩ (.slice x1 isr.length y1)).setCell ⟨W1.heap.size,5,none⟩ (.slice x2 reps.length y2)).setCell ⟨W1.heap.size,6,none⟩ (.slice x3 add.length y3)).setCell ⟨W1.heap.size,7,none⟩ (.slice x4 rem.length y4)).setCell ⟨W1.heap.size,8,none⟩ (.int .i64 mn)) W1.heap.size (.slice x3 add.length y3) add∧LN w (((((((((W2.setCell ⟨W1.heap.size,0,none⟩ (.int .i64 id)).setCell ⟨W1.heap.size,1,none⟩ (.int .i64 ld)).setCell ⟨W1.heap.size,2,none⟩ (.int .i64 ep)).setCell ⟨W1.heap.size,3,none⟩ (.int .i64 vr)).setCell ⟨W1.heap.size,4,none⟩ (.slice x1 isr.length y1)).setCell ⟨W1.heap.size,5,none⟩ (.slice x2 reps.length y2)).setCell ⟨W1.heap.size,6,none⟩ (.slice x3 add.length y3)).setCell ⟨W1.heap.size,7,none⟩ (.slice x4 rem.length y4)).setCell ⟨W1.heap.size,8,none⟩ (.int .i64 mn)) W1.heap.size (.slice x4 rem.length y4) rem):=⟨nine_n HQ2.out rfl (.int .i64 id) (.int .i64 ld) (.int .i64 ep) (.int .i64 vr) (.slice x1 isr.length y1) (.slice x2 reps.length y2) (.slice x3 add.length y3) (.slice x4 rem.length y4) (.int .i64 mn),LA.out.1.nine (.int .i64 id) (.int .i64 ld) (.int .i64 ep) (.int .i64 vr) (.slice x1 isr.length y1) (.slice x2 reps.length y2) (.slice x3 add.length y3) (.slice x4 rem.length y4) (.int .i64 mn),LA.out.2.1.nine (.int .i64 id) (.int .i64 ld) (.int .i64 ep) (.int .i64 vr) (.slice x1 isr.length y1) (.slice x2 reps.length y2) (.slice x3 add.length y3) (.slice x4 rem.length y4) (.int .i64 mn),LA.out.2.2.1.nine (.int .i64 id) (.int .i64 ld) (.int .i64 ep) (.int .i64 vr) (.slice x1 isr.length y1) (.slice x2 reps.length y2) (.slice x3 add.length y3) (.slice x4 rem.length y4) (.int .i64 mn),LA.out.2.2.2.nine (.int .i64 id) (.int .i64 ld) (.int .i64 ep) (.int .i64 vr) (.slice x1 isr.length y1) (.slice x2 reps.length y2) (.slice x3 add.length y3) (.slice x4 rem.length y4) (.int .i64 mn)⟩
         clear q1 q2 q3 q4 n0 n1 n2 n3 n4 n5 n6 n7 n8 k1 fq H1 H2 LA
         generalize (((((((((W2.setCell ⟨W1.heap.size,0,none⟩ (.int .i64 id)).setCell ⟨W1.heap.size,1,none⟩ (.int .i64 ld)).setCell ⟨W1.heap.size,2,none⟩ (.int .i64 ep)).setCell ⟨W1.heap.size,3,none⟩ (.int .i64 vr)).setCell ⟨W1.heap.size,4,none⟩ (.slice x1 isr.length y1)).setCell ⟨W1.heap.size,5,none⟩ (.slice x2 reps.length y2)).setCell ⟨W1.heap.size,6,none⟩ (.slice x3 add.length y3)).setCell ⟨W1.heap.size,7,none⟩ (.slice x4 rem.length y4)).setCell ⟨W1.heap.size,8,none⟩ (.int .i64 mn))=W3 at *
         go_wp2_with fail
         go_meet
         case rel=>exact ⟨W1.heap.size,x1,y1,x2,y2,x3,y3,x4,y4,rfl,rfl,HQ.out⟩)
  case rest =>
    obtain ⟨q,x1,y1,x2,y2,x3,y3,x4,y4,rfl,rfl,HQ⟩:=hcut
    generalize wc=W2 at *
    have H2:=hid HQ.out.1
    have HT2:=hid H2.out.t
    have P2:=hid HQ.out.2.2.1
    have P3:=hid HQ.out.2.2.2.1
    have P4:=hid HQ.out.2.2.2.2
    clear k0 k1 k2 k3 k4 k5 k6 k7 k8 z0 z1 z2 z3 z4 z5 z6 z7 z8 fx fz
    obtain ⟨k0,k1,k2,k3,k4,k5,k6,k7,k8⟩:=cells9 HT2.out.x
    obtain ⟨z0,z1,z2,z3,z4,z5,z6,z7,z8⟩:=cells9 HT2.out.z
    have fx:=frz_blk HT2.out.x
    have fz:=frz_blk HT2.out.z
    obtain ⟨n0,n1,n2,n3,n4,n5,n6,n7,n8⟩:=cells9 H2.out.n
    have fn:=frz_blk H2.out.n
    by_cases hlen:1<isr.length
    · have hlen':(1:Int)<(isr.length:Int):=by omega
      have HFT:=hid (HF1.out hlen)
      rw [← HFT.out] at G49
      have HBA:Hid (Below W2.heap.size W2 (W2.alloc (.cells #[.int .i64 b] 3))):=(Below.refl _ _).alloc (Nat.le_refl _) _
      have HT2s:=hid HT2.out.s
      have hs2:w.heap.size<W2.heap.size:=by have:=HT2.out.s;omega
      have hs2a:q<W2.heap.size:=H2.out.hi
      go_wp2_with fail
      have HQA:=hid (H2.out.next HBA.out)
      refine (G49.out _ _ HQA.out.t.b (il_one b hb0 _ HBA.out _ (heap_alloc_new _ _))).mono ?_
      rintro e W3 ⟨v',rfl,h1,h2,hb⟩
      obtain ⟨m1,m2,rfl,_⟩:=h1.shape
      have H3:=hid (HQA.out.next hb)
      have M1:=hid (ln_new h1 h2 HQA.out.hi HQA.out.lo)
      have M2:=hid ((P2.out.under HBA.out).under hb)
      have M3:=hid ((P3.out.under HBA.out).under hb)
      have M4:=hid ((P4.out.under HBA.out).under hb)
      clear h1 h2 hb P2 P3 P4 k0 k1 k2 k3 k4 k5 k6 k7 k8 z0 z1 z2 z3 z4 z5 z6 z7 z8 fx fz n0 n1 n2 n3 n4 n5 n6 n7 n8 fn HQA
      obtain ⟨n0,n1,n2,n3,n4,n5,n6,n7,n8⟩:=cells9 H3.out.n
      have fn:=frz_blk H3.out.n
      have k1:=cell_blk H3.out.t.x 1 _ rfl
      go_upto_region 6 with fail
      have H4:Hid (ThreeB w (W3.setCell ⟨q,4,none⟩ (.slice m1 T.length m2)) q (PL id ld ep vr a1 isr c1 a2 reps c2 a3 add c3 a4 rem c4 mn) PZ (PL id ld ep vr m1 T m2 x2 reps y2 x3 add y3 x4 rem y4 mn)):=H3.out.setn 4 _
      have P1:=hid (M1.out.setn 4 (.slice m1 T.length m2))
      have P2:=hid (M2.out.setn 4 (.slice m1 T.length m2))
      have P3:=hid (M3.out.setn 4 (.slice m1 T.length m2))
      have P4:=hid (M4.out.setn 4 (.slice m1 T.length m2))
      clear n0 n1 n2 n3 n4 n5 n6 n7 n8 fn M1 M2 M3 M4 H3 k1
      generalize W3.setCell ⟨q,4,none⟩ (.slice m1 T.length m2)=W4 at *
      have HT4:=hid H4.out.t
      obtain ⟨k0,k1,k2,k3,k4,k5,k6,k7,k8⟩:=cells9 HT4.out.x
      obtain ⟨z0,z1,z2,z3,z4,z5,z6,z7,z8⟩:=cells9 HT4.out.z
      have fx:=frz_blk HT4.out.x
      have fz:=frz_blk HT4.out.z
      obtain ⟨n0,n1,n2,n3,n4,n5,n6,n7,n8⟩:=cells9 H4.out.n
      have fn:=frz_blk H4.out.n
      by_cases hb:ld=b
      · subst hb
        go_wp2_with fail
        refine (G59.out W4 _ _ _ _ _ _ _ _ HT4.out.b P1.out.1 P2.out.1 P3.out.1 P4.out.1).mono ?_
        rintro e W5 ⟨rfl,hH,hb⟩
        have H5:=hid (H4.out.next hb)
        have HT5:=hid H5.out.t
        have P1':=hid (P1.out.under hb)
        have P2':=hid (P2.out.under hb)
        have P3':=hid (P3.out.under hb)
        have P4':=hid (P4.out.under hb)
        clear hb k0 k1 k2 k3 k4 k5 k6 k7 k8 z0 z1 z2 z3 z4 z5 z6 z7 z8 fx fz n0 n1 n2 n3 n4 n5 n6 n7 n8 fn P1 P2 P3 P4
        have P1:=hid P1'.out
        have P2:=hid P2'.out
        have P3:=hid P3'.out
        have P4:=hid P4'.out
        clear P1' P2' P3' P4'
        obtain ⟨k0,k1,k2,k3,k4,k5,k6,k7,k8⟩:=cells9 HT5.out.x
        obtain ⟨z0,z1,z2,z3,z4,z5,z6,z7,z8⟩:=cells9 HT5.out.z
        have fx:=frz_blk HT5.out.x
        have fz:=frz_blk HT5.out.z
        obtain ⟨n0,n1,n2,n3,n4,n5,n6,n7,n8⟩:=cells9 H5.out.n
        have fn:=frz_blk H5.out.n
        by_cases h2:H=ld
        · have h2b:(H == ld)=true:=by simp [h2]
          by_cases h3:T.length=isr.length
          · have h3b:((T.length:Int) == (isr.length:Int))=true:=by simp [h3]
            have HR:Hid (r=(⟨id,ld,ep,vr,T,reps,add,rem,mn⟩,0)):=by show _=_;rw [HE.out];simp [h2,h3]
            have HTl:=hid h3
            have HHl:=hid h2
            clear h3 h2
            go_wp2_with fail
            exact leaf9 HT5.out rfl Tryz.results156 (n:=.int .i64 0) rfl rfl rfl fun W9 HT9 hsz9 HOFF=>(by rw [HR.out];exact ⟨_,rfl,⟨_,_,_,_,rfl,P1.out.ia.offz HOFF.out hsz9,P2.out.ia.offz HOFF.out hsz9,P3.out.ia.offz HOFF.out hsz9,P4.out.ia.offz HOFF.out hsz9,HI.out⟩,(inP_of (P1.out.in.mono fun b hb=>by omega) (P2.out.in.mono fun b hb=>by omega) (P3.out.in.mono fun b hb=>by omega) (P4.out.in.mono fun b hb=>by omega)),HT9.out.b⟩)
          · have h3b:((T.length:Int) == (isr.length:Int))=false:=by simp;omega
            have HR:Hid (r=changedP ⟨id,ld,ep,vr,T,reps,add,rem,mn⟩ H):=by show _=_;rw [HE.out];simp [h3]
            have HHl:=hid h2
            clear h2
            have G53:=hid (changed_any (X:=fun b=>w.heap.size+2≤b) (w:=W5) (v:=.agg (PL id ld ep vr m1 T m2 x2 reps y2 x3 add y3 x4 rem y4 mn)) (p:=⟨id,ld,ep,vr,T,reps,add,rem,mn⟩) ⟨_,_,_,_,rfl,P1.out.1,P2.out.1,P3.out.1,P4.out.1,HI.out⟩ (inP_of P1.out.in P2.out.in P3.out.in P4.out.in) H hH hep hvr)
            have HR2:=hid HR.out
            clear HR
            generalize changedP ⟨id,ld,ep,vr,T,reps,add,rem,mn⟩ H=r2 at *
            obtain ⟨⟨rid,rld,rep,rvr,rl1,rl2,rl3,rl4,rmn⟩,re⟩:=r2
            go_wp2_with fail
            refine G53.out.mono ?_
            rintro e W6 ⟨v',rfl,h1,h2,hb⟩
            obtain ⟨t1,u1,t2,u2,t3,u3,t4,u4,rfl,q1,q2,q3,q4,ii⟩:=h1.open
            obtain ⟨n1,n2,n3,n4⟩:=h2 _ _ _ _ _ _ _ _ _ rfl
            simp only at q1 q2 q3 q4 n1 n2 n3 n4 ii
            have HT6:=hid (HT5.out.next hb)
            have HL:Hid (IA w W6 (.slice t1 rl1.length u1) rl1∧IA w W6 (.slice t2 rl2.length u2) rl2∧IA w W6 (.slice t3 rl3.length u3) rl3∧IA w W6 (.slice t4 rl4.length u4) rl4):=⟨⟨q1,n1.mono fun b hx=>.inr hx⟩,⟨q2,n2.mono fun b hx=>.inr hx⟩,⟨q3,n3.mono fun b hx=>.inr hx⟩,⟨q4,n4.mono fun b hx=>.inr hx⟩⟩
            have HN:Hid (InP (fun b=>w.heap.size≤b) (.agg (PL rid rld rep rvr t1 rl1 u1 t2 rl2 u2 t3 rl3 u3 t4 rl4 u4 rmn)) ⟨rid,rld,rep,rvr,rl1,rl2,rl3,rl4,rmn⟩):=h2.mono fun b hx=>by omega
            have HI2:=hid ii
            clear q1 q2 q3 q4 n1 n2 n3 n4 ii h1 h2 hb k0 k1 k2 k3 k4 k5 k6 k7 k8 z0 z1 z2 z3 z4 z5 z6 z7 z8 fx fz
            obtain ⟨k0,k1,k2,k3,k4,k5,k6,k7,k8⟩:=cells9 HT6.out.x
            obtain ⟨z0,z1,z2,z3,z4,z5,z6,z7,z8⟩:=cells9 HT6.out.z
            have fx:=frz_blk HT6.out.x
            have fz:=frz_blk HT6.out.z
            go_wp2_with fail
            exact leaf9 HT6.out rfl Tryz.results156 (n:=.int .i64 re) rfl rfl rfl fun W9 HT9 hsz9 HOFF=>(by rw [HR2.out];exact ⟨_,rfl,⟨_,_,_,_,rfl,HL.out.1.offz HOFF.out hsz9,HL.out.2.1.offz HOFF.out hsz9,HL.out.2.2.1.offz HOFF.out hsz9,HL.out.2.2.2.offz HOFF.out hsz9,HI2.out⟩,HN.out,HT9.out.b⟩)
        · have h2b:(H == ld)=false:=by simp [h2]
          have HR:Hid (r=changedP ⟨id,ld,ep,vr,T,reps,add,rem,mn⟩ H):=by show _=_;rw [HE.out];simp [h2]
          have G53:=hid (changed_any (X:=fun b=>w.heap.size+2≤b) (w:=W5) (v:=.agg (PL id ld ep vr m1 T m2 x2 reps y2 x3 add y3 x4 rem y4 mn)) (p:=⟨id,ld,ep,vr,T,reps,add,rem,mn⟩) ⟨_,_,_,_,rfl,P1.out.1,P2.out.1,P3.out.1,P4.out.1,HI.out⟩ (inP_of P1.out.in P2.out.in P3.out.in P4.out.in) H hH hep hvr)
          have HR2:=hid HR.out
          clear HR
          generalize changedP ⟨id,ld,ep,vr,T,reps,add,rem,mn⟩ H=r2 at *
          obtain ⟨⟨rid,rld,rep,rvr,rl1,rl2,rl3,rl4,rmn⟩,re⟩:=r2
          go_wp2_with fail
          refine G53.out.mono ?_
          rintro e W6 ⟨v',rfl,h1,h2,hb⟩
          obtain ⟨t1,u1,t2,u2,t3,u3,t4,u4,rfl,q1,q2,q3,q4,ii⟩:=h1.open
          obtain ⟨n1,n2,n3,n4⟩:=h2 _ _ _ _ _ _ _ _ _ rfl
          simp only at q1 q2 q3 q4 n1 n2 n3 n4 ii
          have HT6:=hid (HT5.out.next hb)
          have HL:Hid (IA w W6 (.slice t1 rl1.length u1) rl1∧IA w W6 (.slice t2 rl2.length u2) rl2∧IA w W6 (.slice t3 rl3.length u3) rl3∧IA w W6 (.slice t4 rl4.length u4) rl4):=⟨⟨q1,n1.mono fun b hx=>.inr hx⟩,⟨q2,n2.mono fun b hx=>.inr hx⟩,⟨q3,n3.mono fun b hx=>.inr hx⟩,⟨q4,n4.mono fun b hx=>.inr hx⟩⟩
          have HN:Hid (InP (fun b=>w.heap.size≤b) (.agg (PL rid rld rep rvr t1 rl1 u1 t2 rl2 u2 t3 rl3 u3 t4 rl4 u4 rmn)) ⟨rid,rld,rep,rvr,rl1,rl2,rl3,rl4,rmn⟩):=h2.mono fun b hx=>by omega
          have HI2:=hid ii
          clear q1 q2 q3 q4 n1 n2 n3 n4 ii h1 h2 hb k0 k1 k2 k3 k4 k5 k6 k7 k8 z0 z1 z2 z3 z4 z5 z6 z7 z8 fx fz
          obtain ⟨k0,k1,k2,k3,k4,k5,k6,k7,k8⟩:=cells9 HT6.out.x
          obtain ⟨z0,z1,z2,z3,z4,z5,z6,z7,z8⟩:=cells9 HT6.out.z
          have fx:=frz_blk HT6.out.x
          have fz:=frz_blk HT6.out.z
          go_wp2_with fail
          exact leaf9 HT6.out rfl Tryz.results156 (n:=.int .i64 re) rfl rfl rfl fun W9 HT9 hsz9 HOFF=>(by rw [HR2.out];exact ⟨_,rfl,⟨_,_,_,_,rfl,HL.out.1.offz HOFF.out hsz9,HL.out.2.1.offz HOFF.out hsz9,HL.out.2.2.1.offz HOFF.out hsz9,HL.out.2.2.2.offz HOFF.out hsz9,HI2.out⟩,HN.out,HT9.out.b⟩)
      · have hbb:(ld == b)=false:=by simp [hb]
        by_cases h3:T.length=isr.length
        · have h3b:((T.length:Int) == (isr.length:Int))=true:=by simp [h3]
          have HR:Hid (r=(⟨id,ld,ep,vr,T,reps,add,rem,mn⟩,0)):=by show _=_;rw [HE.out];simp [hb,h3]
          have HTl:=hid h3
          clear h3
          go_wp2_with fail
          exact leaf9 HT4.out rfl Tryz.results156 (n:=.int .i64 0) rfl rfl rfl fun W9 HT9 hsz9 HOFF=>(by rw [HR.out];exact ⟨_,rfl,⟨_,_,_,_,rfl,P1.out.ia.offz HOFF.out hsz9,P2.out.ia.offz HOFF.out hsz9,P3.out.ia.offz HOFF.out hsz9,P4.out.ia.offz HOFF.out hsz9,HI.out⟩,(inP_of (P1.out.in.mono fun b hb=>by omega) (P2.out.in.mono fun b hb=>by omega) (P3.out.in.mono fun b hb=>by omega) (P4.out.in.mono fun b hb=>by omega)),HT9.out.b⟩)
        · have h3b:((T.length:Int) == (isr.length:Int))=false:=by simp;omega
          have HR:Hid (r=changedP ⟨id,ld,ep,vr,T,reps,add,rem,mn⟩ ld):=by show _=_;rw [HE.out];simp [hb,h3]
          have G53:=hid (changed_any (X:=fun b=>w.heap.size+2≤b) (w:=W4) (v:=.agg (PL id ld ep vr m1 T m2 x2 reps y2 x3 add y3 x4 rem y4 mn)) (p:=⟨id,ld,ep,vr,T,reps,add,rem,mn⟩) ⟨_,_,_,_,rfl,P1.out.1,P2.out.1,P3.out.1,P4.out.1,HI.out⟩ (inP_of P1.out.in P2.out.in P3.out.in P4.out.in) ld HI.out.2.1 hep hvr)
          have HR2:=hid HR.out
          clear HR
          generalize changedP ⟨id,ld,ep,vr,T,reps,add,rem,mn⟩ ld=r2 at *
          obtain ⟨⟨rid,rld,rep,rvr,rl1,rl2,rl3,rl4,rmn⟩,re⟩:=r2
          go_wp2_with fail
          refine G53.out.mono ?_
          rintro e W5 ⟨v',rfl,h1,h2,hb⟩
          obtain ⟨t1,u1,t2,u2,t3,u3,t4,u4,rfl,q1,q2,q3,q4,ii⟩:=h1.open
          obtain ⟨n1,n2,n3,n4⟩:=h2 _ _ _ _ _ _ _ _ _ rfl
          simp only at q1 q2 q3 q4 n1 n2 n3 n4 ii
          have HT5:=hid (HT4.out.next hb)
          have HL:Hid (IA w W5 (.slice t1 rl1.length u1) rl1∧IA w W5 (.slice t2 rl2.length u2) rl2∧IA w W5 (.slice t3 rl3.length u3) rl3∧IA w W5 (.slice t4 rl4.length u4) rl4):=⟨⟨q1,n1.mono fun b hx=>.inr hx⟩,⟨q2,n2.mono fun b hx=>.inr hx⟩,⟨q3,n3.mono fun b hx=>.inr hx⟩,⟨q4,n4.mono fun b hx=>.inr hx⟩⟩
          have HN:Hid (InP (fun b=>w.heap.size≤b) (.agg (PL rid rld rep rvr t1 rl1 u1 t2 rl2 u2 t3 rl3 u3 t4 rl4 u4 rmn)) ⟨rid,rld,rep,rvr,rl1,rl2,rl3,rl4,rmn⟩):=h2.mono fun b hx=>by omega
          have HI2:=hid ii
          clear q1 q2 q3 q4 n1 n2 n3 n4 ii h1 h2 hb k0 k1 k2 k3 k4 k5 k6 k7 k8 z0 z1 z2 z3 z4 z5 z6 z7 z8 fx fz
          obtain ⟨k0,k1,k2,k3,k4,k5,k6,k7,k8⟩:=cells9 HT5.out.x
          obtain ⟨z0,z1,z2,z3,z4,z5,z6,z7,z8⟩:=cells9 HT5.out.z
          have fx:=frz_blk HT5.out.x
          have fz:=frz_blk HT5.out.z
          go_wp2_with fail
          exact leaf9 HT5.out rfl Tryz.results156 (n:=.int .i64 re) rfl rfl rfl fun W9 HT9 hsz9 HOFF=>(by rw [HR2.out];exact ⟨_,rfl,⟨_,_,_,_,rfl,HL.out.1.offz HOFF.out hsz9,HL.out.2.1.offz HOFF.out hsz9,HL.out.2.2.1.offz HOFF.out hsz9,HL.out.2.2.2.offz HOFF.out hsz9,HI2.out⟩,HN.out,HT9.out.b⟩)
    · have hlen':¬ (1:Int)<(isr.length:Int):=by omega
      have HFT:=hid (HF2.out hlen)
      have P1:=hid HQ.out.2.1
      rw [HFT.out] at HE G59
      clear HFT HF1 HF2
      go_upto_region 6 with fail
      have H4:=hid H2.out
      have HT4:=hid HT2.out
      generalize W2=W4 at *
      by_cases hb:ld=b
      · subst hb
        go_wp2_with fail
        refine (G59.out W4 _ _ _ _ _ _ _ _ HT4.out.b P1.out.1 P2.out.1 P3.out.1 P4.out.1).mono ?_
        rintro e W5 ⟨rfl,hH,hb⟩
        have H5:=hid (H4.out.next hb)
        have HT5:=hid H5.out.t
        have P1':=hid (P1.out.under hb)
        have P2':=hid (P2.out.under hb)
        have P3':=hid (P3.out.under hb)
        have P4':=hid (P4.out.under hb)
        clear hb k0 k1 k2 k3 k4 k5 k6 k7 k8 z0 z1 z2 z3 z4 z5 z6 z7 z8 fx fz n0 n1 n2 n3 n4 n5 n6 n7 n8 fn P1 P2 P3 P4
        have P1:=hid P1'.out
        have P2:=hid P2'.out
        have P3:=hid P3'.out
        have P4:=hid P4'.out
        clear P1' P2' P3' P4'
        obtain ⟨k0,k1,k2,k3,k4,k5,k6,k7,k8⟩:=cells9 HT5.out.x
        obtain ⟨z0,z1,z2,z3,z4,z5,z6,z7,z8⟩:=cells9 HT5.out.z
        have fx:=frz_blk HT5.out.x
        have fz:=frz_blk HT5.out.z
        obtain ⟨n0,n1,n2,n3,n4,n5,n6,n7,n8⟩:=cells9 H5.out.n
        have fn:=frz_blk H5.out.n
        by_cases h2:H=ld
        · have h2b:(H == ld)=true:=by simp [h2]
          by_cases h3:isr.length=isr.length
          · skip
            have HR:Hid (r=(⟨id,ld,ep,vr,isr,reps,add,rem,mn⟩,0)):=by show _=_;rw [HE.out];simp [h2]
            have HTl:=hid h3
            have HHl:=hid h2
            clear h3 h2
            go_wp2_with fail
            exact leaf9 HT5.out rfl Tryz.results156 (n:=.int .i64 0) rfl rfl rfl fun W9 HT9 hsz9 HOFF=>(by rw [HR.out];exact ⟨_,rfl,⟨_,_,_,_,rfl,P1.out.ia.offz HOFF.out hsz9,P2.out.ia.offz HOFF.out hsz9,P3.out.ia.offz HOFF.out hsz9,P4.out.ia.offz HOFF.out hsz9,HI.out⟩,(inP_of (P1.out.in.mono fun b hb=>by omega) (P2.out.in.mono fun b hb=>by omega) (P3.out.in.mono fun b hb=>by omega) (P4.out.in.mono fun b hb=>by omega)),HT9.out.b⟩)
          · exact absurd rfl h3
        · have h2b:(H == ld)=false:=by simp [h2]
          have HR:Hid (r=changedP ⟨id,ld,ep,vr,isr,reps,add,rem,mn⟩ H):=by show _=_;rw [HE.out];simp [h2]
          have G53:=hid (changed_any (X:=fun b=>w.heap.size+2≤b) (w:=W5) (v:=.agg (PL id ld ep vr x1 isr y1 x2 reps y2 x3 add y3 x4 rem y4 mn)) (p:=⟨id,ld,ep,vr,isr,reps,add,rem,mn⟩) ⟨_,_,_,_,rfl,P1.out.1,P2.out.1,P3.out.1,P4.out.1,HI.out⟩ (inP_of P1.out.in P2.out.in P3.out.in P4.out.in) H hH hep hvr)
          have HR2:=hid HR.out
          clear HR
          generalize changedP ⟨id,ld,ep,vr,isr,reps,add,rem,mn⟩ H=r2 at *
          obtain ⟨⟨rid,rld,rep,rvr,rl1,rl2,rl3,rl4,rmn⟩,re⟩:=r2
          go_wp2_with fail
          refine G53.out.mono ?_
          rintro e W6 ⟨v',rfl,h1,h2,hb⟩
          obtain ⟨t1,u1,t2,u2,t3,u3,t4,u4,rfl,q1,q2,q3,q4,ii⟩:=h1.open
          obtain ⟨n1,n2,n3,n4⟩:=h2 _ _ _ _ _ _ _ _ _ rfl
          simp only at q1 q2 q3 q4 n1 n2 n3 n4 ii
          have HT6:=hid (HT5.out.next hb)
          have HL:Hid (IA w W6 (.slice t1 rl1.length u1) rl1∧IA w W6 (.slice t2 rl2.length u2) rl2∧IA w W6 (.slice t3 rl3.length u3) rl3∧IA w W6 (.slice t4 rl4.length u4) rl4):=⟨⟨q1,n1.mono fun b hx=>.inr hx⟩,⟨q2,n2.mono fun b hx=>.inr hx⟩,⟨q3,n3.mono fun b hx=>.inr hx⟩,⟨q4,n4.mono fun b hx=>.inr hx⟩⟩
          have HN:Hid (InP (fun b=>w.heap.size≤b) (.agg (PL rid rld rep rvr t1 rl1 u1 t2 rl2 u2 t3 rl3 u3 t4 rl4 u4 rmn)) ⟨rid,rld,rep,rvr,rl1,rl2,rl3,rl4,rmn⟩):=h2.mono fun b hx=>by omega
          have HI2:=hid ii
          clear q1 q2 q3 q4 n1 n2 n3 n4 ii h1 h2 hb k0 k1 k2 k3 k4 k5 k6 k7 k8 z0 z1 z2 z3 z4 z5 z6 z7 z8 fx fz
          obtain ⟨k0,k1,k2,k3,k4,k5,k6,k7,k8⟩:=cells9 HT6.out.x
          obtain ⟨z0,z1,z2,z3,z4,z5,z6,z7,z8⟩:=cells9 HT6.out.z
          have fx:=frz_blk HT6.out.x
          have fz:=frz_blk HT6.out.z
          go_wp2_with fail
          exact leaf9 HT6.out rfl Tryz.results156 (n:=.int .i64 re) rfl rfl rfl fun W9 HT9 hsz9 HOFF=>(by rw [HR2.out];exact ⟨_,rfl,⟨_,_,_,_,rfl,HL.out.1.offz HOFF.out hsz9,HL.out.2.1.offz HOFF.out hsz9,HL.out.2.2.1.offz HOFF.out hsz9,HL.out.2.2.2.offz HOFF.out hsz9,HI2.out⟩,HN.out,HT9.out.b⟩)
      · have hbb:(ld == b)=false:=by simp [hb]
        by_cases h3:isr.length=isr.length
        · skip
          have HR:Hid (r=(⟨id,ld,ep,vr,isr,reps,add,rem,mn⟩,0)):=by show _=_;rw [HE.out];simp [hb]
          have HTl:=hid h3
          clear h3
          go_wp2_with fail
          exact leaf9 HT4.out rfl Tryz.results156 (n:=.int .i64 0) rfl rfl rfl fun W9 HT9 hsz9 HOFF=>(by rw [HR.out];exact ⟨_,rfl,⟨_,_,_,_,rfl,P1.out.ia.offz HOFF.out hsz9,P2.out.ia.offz HOFF.out hsz9,P3.out.ia.offz HOFF.out hsz9,P4.out.ia.offz HOFF.out hsz9,HI.out⟩,(inP_of (P1.out.in.mono fun b hb=>by omega) (P2.out.in.mono fun b hb=>by omega) (P3.out.in.mono fun b hb=>by omega) (P4.out.in.mono fun b hb=>by omega)),HT9.out.b⟩)
        · exact absurd rfl h3
end Go.Proofs.YtcffomhcmilcpaaGreat
