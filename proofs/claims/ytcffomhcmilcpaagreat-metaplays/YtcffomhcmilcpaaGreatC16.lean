/- What a kind of record makes of a partition's state. -/
import Derived.Test.YtcffomhcmilcpaaGreatC9
import Derived.Test.YtcffomhcmilcpaaGreatC13
import Derived.Test.YtcffomhcmilcpaaGreatC14
import Derived.Test.YtcffomhcmilcpaaGreatC15
import Derived.Test.YtcffomhcmilcpaaGreatC4
set_option maxRecDepth 100000
set_option maxHeartbeats 20000000
set_option linter.unusedVariables false
set_option linter.unusedSimpArgs false
namespace Go.Proofs.YtcffomhcmilcpaaGreat
open Go.RowKit Go.Maps
theorem staying_any {w:World} {L:Nat→Prop} {q b:Nat} {vt vp ve:Value} {ps:List (Value × Pt)} {I:Im} (h:ImC w L q b vt vp ve ps I) {pv rv:Value} {p:Pt} {r:Rc} (hp:PartM w pv p) (hr:RecM w rv r):Calls Tryz.prog 163 #[.pointer (some ⟨q,0,none⟩),pv,rv] w fun e w'=>Res (fun b=>w.heap.size≤b) w (cancelP p (upL I.brs)) e w':=by
 have HP:=hid hp
 obtain ⟨x1,y1,x2,y2,x3,y3,x4,y4,rfl,_⟩:=hp.open
 obtain ⟨⟨lv,rfl,hil⟩,ok,hname⟩:=hr
 have HL:=hid hil
 obtain ⟨⟨la,lc,rfl,_⟩,_⟩:=hil
 obtain ⟨rk,ra,rb,rc,rd,rn,rt,rl⟩:=r
 simp only at ok hname HL ⊢
 obtain ⟨n,hn⟩:∃ n,n=cancelP p (upL I.brs):=⟨_,rfl⟩
 rw [← hn]
 have HNN:=hid hn
 clear hn
 have okb:=ok.b
 have okc:=ok.c
 have okd:=ok.d
 simp only at okb okc okd
 have hbA:Below w.heap.size w (((w.alloc (.cells (PP p x1 y1 x2 y2 x3 y3 x4 y4) 54)).alloc (.cells (RV rk ra rb rc rd rn rt la rl.length lc) 34)).alloc (.cells PZ 54)):=(((Below.refl _ _).alloc (Nat.le_refl _) _).alloc (by simp) _).alloc (by simp;omega) _
 have HBA:=hid hbA
 have HX:Hid ((((w.alloc (.cells (PP p x1 y1 x2 y2 x3 y3 x4 y4) 54)).alloc (.cells (RV rk ra rb rc rd rn rt la rl.length lc) 34)).alloc (.cells PZ 54)).heap[w.heap.size]?=some (.cells (PP p x1 y1 x2 y2 x3 y3 x4 y4) 54)∧(((w.alloc (.cells (PP p x1 y1 x2 y2 x3 y3 x4 y4) 54)).alloc (.cells (RV rk ra rb rc rd rn rt la rl.length lc) 34)).alloc (.cells PZ 54)).heap[w.heap.size+1]?=some (.cells (RV rk ra rb rc rd rn rt la rl.length lc) 34)∧(((w.alloc (.cells (PP p x1 y1 x2 y2 x3 y3 x4 y4) 54)).alloc (.cells (RV rk ra rb rc rd rn rt la rl.length lc) 34)).alloc (.cells PZ 54)).heap[w.heap.size+2]?=some (.cells PZ 54)∧(((w.alloc (.cells (PP p x1 y1 x2 y2 x3 y3 x4 y4) 54)).alloc (.cells (RV rk ra rb rc rd rn rt la rl.length lc) 34)).alloc (.cells PZ 54)).heap.size=w.heap.size+3):=by
  refine ⟨?_,?_,?_,by simp⟩
  ·rw [Below.heap_alloc _ _ _ (by simp;omega),Below.heap_alloc _ _ _ (by simp)];exact heap_alloc_new _ _
  ·rw [Below.heap_alloc _ _ _ (by simp)]
   have:=heap_alloc_new (w.alloc (.cells (PP p x1 y1 x2 y2 x3 y3 x4 y4) 54)) (.cells (RV rk ra rb rc rd rn rt la rl.length lc) 34)
   rw [show (w.alloc (.cells (PP p x1 y1 x2 y2 x3 y3 x4 y4) 54)).heap.size=w.heap.size+1 by simp] at this
   exact this
  ·have:=heap_alloc_new ((w.alloc (.cells (PP p x1 y1 x2 y2 x3 y3 x4 y4) 54)).alloc (.cells (RV rk ra rb rc rd rn rt la rl.length lc) 34)) (.cells PZ 54)
   rw [show ((w.alloc (.cells (PP p x1 y1 x2 y2 x3 y3 x4 y4) 54)).alloc (.cells (RV rk ra rb rc rd rn rt la rl.length lc) 34)).heap.size=w.heap.size+2 by simp] at this
   exact this
 have HI:=hid (h.under hbA)
 have HPW:=hid (HP.out.under hbA)
 have HLW:=hid (HL.out.under hbA)
 clear h hp hbA HP HL ok
 go_enter Tryz.func163,Tryz.ntmps163
 go_upto_region 1 with fail
 generalize (((w.alloc (.cells (PP p x1 y1 x2 y2 x3 y3 x4 y4) 54)).alloc (.cells (RV rk ra rb rc rd rn rt la rl.length lc) 34)).alloc (.cells PZ 54))=W at *
 obtain ⟨x,hx⟩:∃ x,x=w.heap.size:=⟨_,rfl⟩
 rw [← hx] at HX HBA ⊢
 have HXW:=hid hx
 clear hx
 have HUP:=hid (up_any (HI.out.under (Below.refl _ W).drew))
 have HM:Hid (∀ V,Below W.heap.size W V→V.cell? ⟨x,0,none⟩=some (.int .i64 p.id)∧V.cell? ⟨x,1,none⟩=some (.int .i64 p.leader)∧V.cell? ⟨x,2,none⟩=some (.int .i64 p.epoch)∧V.cell? ⟨x,3,none⟩=some (.int .i64 p.ver)∧V.cell? ⟨x,4,none⟩=some (.slice x1 p.isr.length y1)∧V.cell? ⟨x,5,none⟩=some (.slice x2 p.reps.length y2)∧V.cell? ⟨x,6,none⟩=some (.slice x3 p.add.length y3)∧V.cell? ⟨x,7,none⟩=some (.slice x4 p.rem.length y4)∧V.cell? ⟨x,8,none⟩=some (.int .i64 p.min)):=fun V hV=>⟨kept_cell hV (cell_blk HX.out.1 0 _ rfl),kept_cell hV (cell_blk HX.out.1 1 _ rfl),kept_cell hV (cell_blk HX.out.1 2 _ rfl),kept_cell hV (cell_blk HX.out.1 3 _ rfl),kept_cell hV (cell_blk HX.out.1 4 _ rfl),kept_cell hV (cell_blk HX.out.1 5 _ rfl),kept_cell hV (cell_blk HX.out.1 6 _ rfl),kept_cell hV (cell_blk HX.out.1 7 _ rfl),kept_cell hV (cell_blk HX.out.1 8 _ rfl)⟩
 obtain ⟨k0,k1,k2,k3,k4,k5,k6,k7,k8⟩:=HM.out W (Below.refl _ _)
 have HDC:Hid (∀ V uv,Below W.drew.heap.size W.drew V→IL V uv (upL I.brs)→Calls Tryz.prog 185 #[.agg (PP p x1 y1 x2 y2 x3 y3 x4 y4),uv] V fun e w'=>Res (fun b=>V.heap.size≤b) V n e w'):=fun V uv hV hu=>by rw [HNN.out];exact cancel_any (HPW.out.under ((Below.refl _ W).drew.trans hV)) hu
 go_region_with (first | (go_at_call 24;refine HUP.out.mono ?_;rintro e V1 ⟨uv,rfl,hu1,hu2,hb1⟩;obtain ⟨ua,uc,rfl,_⟩:=hu1.shape;have HDD:=hid (HDC.out V1 _ hb1 hu1);have HB1:Hid (Below W.heap.size W V1):=(Below.refl _ W).drew.trans hb1;clear k0 k1 k2 k3 k4 k5 k6 k7 k8;obtain ⟨k0,k1,k2,k3,k4,k5,k6,k7,k8⟩:=HM.out V1 HB1.out;clear hu1 hu2 hb1) | (go_at_call 185;refine HDD.out.mono ?_;rintro e V2 ⟨nv,rfl,hn1,hn2,hb2⟩;have HN1:=hid hn1;have HN2:=hid hn2;have HB2:Hid (Below W.heap.size W V2):=HB1.out.trans (hb2.mono HB1.out.size);have hs12:=HB1.out.size;obtain ⟨u1,z1,u2,z2,u3,z3,u4,z4,rfl,_⟩:=hn1.open;have zb:=(HB2.out.block (x+2) (by have:=HX.out.2.2.2;omega)).trans HX.out.2.2.1;have HZB:=hid zb;have e0:=cell_blk zb 0 _ rfl;have e1:=cell_blk zb 1 _ rfl;have e2:=cell_blk zb 2 _ rfl;have e3:=cell_blk zb 3 _ rfl;have e4:=cell_blk zb 4 _ rfl;have e5:=cell_blk zb 5 _ rfl;have e6:=cell_blk zb 6 _ rfl;have e7:=cell_blk zb 7 _ rfl;have e8:=cell_blk zb 8 _ rfl;have ef:=frz_blk zb;clear k0 k1 k2 k3 k4 k5 k6 k7 k8;obtain ⟨k0,k1,k2,k3,k4,k5,k6,k7,k8⟩:=HM.out V2 HB2.out;clear hn2 hb2 zb) | fail)
 all_goals
  go_wp2_with fail
  obtain ⟨N,hN⟩:∃ N,N=puts V2 (x+2) 0 [.int .i64 n.1.id,.int .i64 n.1.leader,.int .i64 n.1.epoch,.int .i64 n.1.ver,.slice u1 n.1.isr.length z1,.slice u2 n.1.reps.length z2,.slice u3 n.1.add.length z3,.slice u4 n.1.rem.length z4,.int .i64 n.1.min]:=⟨_,rfl⟩
  have HR:PutsR V2 N (x+2) 0 [.int .i64 n.1.id,.int .i64 n.1.leader,.int .i64 n.1.epoch,.int .i64 n.1.ver,.slice u1 n.1.isr.length z1,.slice u2 n.1.reps.length z2,.slice u3 n.1.add.length z3,.slice u4 n.1.rem.length z4,.int .i64 n.1.min]:=by rw [hN];exact puts_all _ _ _ _
  show bodyPost Tryz.prog Tryz.f163 _ Exit.ret _ (puts V2 (x+2) 0 [.int .i64 n.1.id,.int .i64 n.1.leader,.int .i64 n.1.epoch,.int .i64 n.1.ver,.slice u1 n.1.isr.length z1,.slice u2 n.1.reps.length z2,.slice u3 n.1.add.length z3,.slice u4 n.1.rem.length z4,.int .i64 n.1.min])
  rw [← hN]
  clear hN
  have hx:=HR.box9 HZB.out rfl
  have hxw:=HXW.out
  obtain ⟨s0,s1,s2,s3,s4,s5,s6,s7,s8⟩:=cells9 hx
  exact bodyPost_ret (v:=.tuple #[.agg (PP n.1 u1 z1 u2 z2 u3 z3 u4 z4),.int .i64 n.2]) (by simp [results,Tryz.results163,go_sem,s0,s1,s2,s3,s4,s5,s6,s7,s8]) rfl ⟨_,rfl,HN1.out.kept HN2.out (fun k hk=>HR.other k (by have:=HX.out.2.2.2;omega)) (by rw [HR.size];exact Nat.le_refl _),HN2.out.mono (fun k hk=>by have:=HX.out.2.2.2;omega),by rw [← hxw];exact HR.below (HBA.out.trans (HB2.out.mono (by have:=HBA.out.size;omega))) (by omega)⟩
theorem moved_any {w:World} {L:Nat→Prop} {q b:Nat} {vt vp ve:Value} {ps:List (Value × Pt)} {I:Im} (h:ImC w L q b vt vp ve ps I) {pv rv:Value} {p:Pt} {r:Rc} (hp:PartM w pv p) (hr:RecM w rv r):Calls Tryz.prog 164 #[.pointer (some ⟨q,0,none⟩),pv,rv] w fun e w'=>Res (fun b=>w.heap.size≤b) w (finishP p (upL I.brs)) e w':=by
 have HP:=hid hp
 obtain ⟨x1,y1,x2,y2,x3,y3,x4,y4,rfl,_⟩:=hp.open
 obtain ⟨⟨lv,rfl,hil⟩,ok,hname⟩:=hr
 have HL:=hid hil
 obtain ⟨⟨la,lc,rfl,_⟩,_⟩:=hil
 obtain ⟨rk,ra,rb,rc,rd,rn,rt,rl⟩:=r
 simp only at ok hname HL ⊢
 obtain ⟨n,hn⟩:∃ n,n=finishP p (upL I.brs):=⟨_,rfl⟩
 rw [← hn]
 have HNN:=hid hn
 clear hn
 have okb:=ok.b
 have okc:=ok.c
 have okd:=ok.d
 simp only at okb okc okd
 have hbA:Below w.heap.size w (((w.alloc (.cells (PP p x1 y1 x2 y2 x3 y3 x4 y4) 54)).alloc (.cells (RV rk ra rb rc rd rn rt la rl.length lc) 34)).alloc (.cells PZ 54)):=(((Below.refl _ _).alloc (Nat.le_refl _) _).alloc (by simp) _).alloc (by simp;omega) _
 have HBA:=hid hbA
 have HX:Hid ((((w.alloc (.cells (PP p x1 y1 x2 y2 x3 y3 x4 y4) 54)).alloc (.cells (RV rk ra rb rc rd rn rt la rl.length lc) 34)).alloc (.cells PZ 54)).heap[w.heap.size]?=some (.cells (PP p x1 y1 x2 y2 x3 y3 x4 y4) 54)∧(((w.alloc (.cells (PP p x1 y1 x2 y2 x3 y3 x4 y4) 54)).alloc (.cells (RV rk ra rb rc rd rn rt la rl.length lc) 34)).alloc (.cells PZ 54)).heap[w.heap.size+1]?=some (.cells (RV rk ra rb rc rd rn rt la rl.length lc) 34)∧(((w.alloc (.cells (PP p x1 y1 x2 y2 x3 y3 x4 y4) 54)).alloc (.cells (RV rk ra rb rc rd rn rt la rl.length lc) 34)).alloc (.cells PZ 54)).heap[w.heap.size+2]?=some (.cells PZ 54)∧(((w.alloc (.cells (PP p x1 y1 x2 y2 x3 y3 x4 y4) 54)).alloc (.cells (RV rk ra rb rc rd rn rt la rl.length lc) 34)).alloc (.cells PZ 54)).heap.size=w.heap.size+3):=by
  refine ⟨?_,?_,?_,by simp⟩
  ·rw [Below.heap_alloc _ _ _ (by simp;omega),Below.heap_alloc _ _ _ (by simp)];exact heap_alloc_new _ _
  ·rw [Below.heap_alloc _ _ _ (by simp)]
   have:=heap_alloc_new (w.alloc (.cells (PP p x1 y1 x2 y2 x3 y3 x4 y4) 54)) (.cells (RV rk ra rb rc rd rn rt la rl.length lc) 34)
   rw [show (w.alloc (.cells (PP p x1 y1 x2 y2 x3 y3 x4 y4) 54)).heap.size=w.heap.size+1 by simp] at this
   exact this
  ·have:=heap_alloc_new ((w.alloc (.cells (PP p x1 y1 x2 y2 x3 y3 x4 y4) 54)).alloc (.cells (RV rk ra rb rc rd rn rt la rl.length lc) 34)) (.cells PZ 54)
   rw [show ((w.alloc (.cells (PP p x1 y1 x2 y2 x3 y3 x4 y4) 54)).alloc (.cells (RV rk ra rb rc rd rn rt la rl.length lc) 34)).heap.size=w.heap.size+2 by simp] at this
   exact this
 have HI:=hid (h.under hbA)
 have HPW:=hid (HP.out.under hbA)
 have HLW:=hid (HL.out.under hbA)
 clear h hp hbA HP HL ok
 go_enter Tryz.func164,Tryz.ntmps164
 go_upto_region 1 with fail
 generalize (((w.alloc (.cells (PP p x1 y1 x2 y2 x3 y3 x4 y4) 54)).alloc (.cells (RV rk ra rb rc rd rn rt la rl.length lc) 34)).alloc (.cells PZ 54))=W at *
 obtain ⟨x,hx⟩:∃ x,x=w.heap.size:=⟨_,rfl⟩
 rw [← hx] at HX HBA ⊢
 have HXW:=hid hx
 clear hx
 have HUP:=hid (up_any (HI.out.under (Below.refl _ W).drew))
 have HM:Hid (∀ V,Below W.heap.size W V→V.cell? ⟨x,0,none⟩=some (.int .i64 p.id)∧V.cell? ⟨x,1,none⟩=some (.int .i64 p.leader)∧V.cell? ⟨x,2,none⟩=some (.int .i64 p.epoch)∧V.cell? ⟨x,3,none⟩=some (.int .i64 p.ver)∧V.cell? ⟨x,4,none⟩=some (.slice x1 p.isr.length y1)∧V.cell? ⟨x,5,none⟩=some (.slice x2 p.reps.length y2)∧V.cell? ⟨x,6,none⟩=some (.slice x3 p.add.length y3)∧V.cell? ⟨x,7,none⟩=some (.slice x4 p.rem.length y4)∧V.cell? ⟨x,8,none⟩=some (.int .i64 p.min)):=fun V hV=>⟨kept_cell hV (cell_blk HX.out.1 0 _ rfl),kept_cell hV (cell_blk HX.out.1 1 _ rfl),kept_cell hV (cell_blk HX.out.1 2 _ rfl),kept_cell hV (cell_blk HX.out.1 3 _ rfl),kept_cell hV (cell_blk HX.out.1 4 _ rfl),kept_cell hV (cell_blk HX.out.1 5 _ rfl),kept_cell hV (cell_blk HX.out.1 6 _ rfl),kept_cell hV (cell_blk HX.out.1 7 _ rfl),kept_cell hV (cell_blk HX.out.1 8 _ rfl)⟩
 obtain ⟨k0,k1,k2,k3,k4,k5,k6,k7,k8⟩:=HM.out W (Below.refl _ _)
 have HDC:Hid (∀ V uv,Below W.drew.heap.size W.drew V→IL V uv (upL I.brs)→Calls Tryz.prog 186 #[.agg (PP p x1 y1 x2 y2 x3 y3 x4 y4),uv] V fun e w'=>Res (fun b=>V.heap.size≤b) V n e w'):=fun V uv hV hu=>by rw [HNN.out];exact finish_any (HPW.out.under ((Below.refl _ W).drew.trans hV)) hu
 go_region_with (first | (go_at_call 24;refine HUP.out.mono ?_;rintro e V1 ⟨uv,rfl,hu1,hu2,hb1⟩;obtain ⟨ua,uc,rfl,_⟩:=hu1.shape;have HDD:=hid (HDC.out V1 _ hb1 hu1);have HB1:Hid (Below W.heap.size W V1):=(Below.refl _ W).drew.trans hb1;clear k0 k1 k2 k3 k4 k5 k6 k7 k8;obtain ⟨k0,k1,k2,k3,k4,k5,k6,k7,k8⟩:=HM.out V1 HB1.out;clear hu1 hu2 hb1) | (go_at_call 186;refine HDD.out.mono ?_;rintro e V2 ⟨nv,rfl,hn1,hn2,hb2⟩;have HN1:=hid hn1;have HN2:=hid hn2;have HB2:Hid (Below W.heap.size W V2):=HB1.out.trans (hb2.mono HB1.out.size);have hs12:=HB1.out.size;obtain ⟨u1,z1,u2,z2,u3,z3,u4,z4,rfl,_⟩:=hn1.open;have zb:=(HB2.out.block (x+2) (by have:=HX.out.2.2.2;omega)).trans HX.out.2.2.1;have HZB:=hid zb;have e0:=cell_blk zb 0 _ rfl;have e1:=cell_blk zb 1 _ rfl;have e2:=cell_blk zb 2 _ rfl;have e3:=cell_blk zb 3 _ rfl;have e4:=cell_blk zb 4 _ rfl;have e5:=cell_blk zb 5 _ rfl;have e6:=cell_blk zb 6 _ rfl;have e7:=cell_blk zb 7 _ rfl;have e8:=cell_blk zb 8 _ rfl;have ef:=frz_blk zb;clear k0 k1 k2 k3 k4 k5 k6 k7 k8;obtain ⟨k0,k1,k2,k3,k4,k5,k6,k7,k8⟩:=HM.out V2 HB2.out;clear hn2 hb2 zb) | fail)
 all_goals
  go_wp2_with fail
  obtain ⟨N,hN⟩:∃ N,N=puts V2 (x+2) 0 [.int .i64 n.1.id,.int .i64 n.1.leader,.int .i64 n.1.epoch,.int .i64 n.1.ver,.slice u1 n.1.isr.length z1,.slice u2 n.1.reps.length z2,.slice u3 n.1.add.length z3,.slice u4 n.1.rem.length z4,.int .i64 n.1.min]:=⟨_,rfl⟩
  have HR:PutsR V2 N (x+2) 0 [.int .i64 n.1.id,.int .i64 n.1.leader,.int .i64 n.1.epoch,.int .i64 n.1.ver,.slice u1 n.1.isr.length z1,.slice u2 n.1.reps.length z2,.slice u3 n.1.add.length z3,.slice u4 n.1.rem.length z4,.int .i64 n.1.min]:=by rw [hN];exact puts_all _ _ _ _
  show bodyPost Tryz.prog Tryz.f164 _ Exit.ret _ (puts V2 (x+2) 0 [.int .i64 n.1.id,.int .i64 n.1.leader,.int .i64 n.1.epoch,.int .i64 n.1.ver,.slice u1 n.1.isr.length z1,.slice u2 n.1.reps.length z2,.slice u3 n.1.add.length z3,.slice u4 n.1.rem.length z4,.int .i64 n.1.min])
  rw [← hN]
  clear hN
  have hx:=HR.box9 HZB.out rfl
  have hxw:=HXW.out
  obtain ⟨s0,s1,s2,s3,s4,s5,s6,s7,s8⟩:=cells9 hx
  exact bodyPost_ret (v:=.tuple #[.agg (PP n.1 u1 z1 u2 z2 u3 z3 u4 z4),.int .i64 n.2]) (by simp [results,Tryz.results164,go_sem,s0,s1,s2,s3,s4,s5,s6,s7,s8]) rfl ⟨_,rfl,HN1.out.kept HN2.out (fun k hk=>HR.other k (by have:=HX.out.2.2.2;omega)) (by rw [HR.size];exact Nat.le_refl _),HN2.out.mono (fun k hk=>by have:=HX.out.2.2.2;omega),by rw [← hxw];exact HR.below (HBA.out.trans (HB2.out.mono (by have:=HBA.out.size;omega))) (by omega)⟩
theorem kmoving_any {w:World} {L:Nat→Prop} {q b:Nat} {vt vp ve:Value} {ps:List (Value × Pt)} {I:Im} (h:ImC w L q b vt vp ve ps I) {pv rv:Value} {p:Pt} {r:Rc} (hp:PartM w pv p) (hr:RecM w rv r):Calls Tryz.prog 162 #[.pointer (some ⟨q,0,none⟩),pv,rv] w fun e w'=>Res (fun b=>w.heap.size≤b) w (beginP p r.list (upL I.brs)) e w':=by
 have HP:=hid hp
 obtain ⟨x1,y1,x2,y2,x3,y3,x4,y4,rfl,_⟩:=hp.open
 obtain ⟨⟨lv,rfl,hil⟩,ok,hname⟩:=hr
 have HL:=hid hil
 obtain ⟨⟨la,lc,rfl,_⟩,_⟩:=hil
 obtain ⟨rk,ra,rb,rc,rd,rn,rt,rl⟩:=r
 simp only at ok hname HL ⊢
 obtain ⟨n,hn⟩:∃ n,n=beginP p rl (upL I.brs):=⟨_,rfl⟩
 rw [← hn]
 have HNN:=hid hn
 clear hn
 have okb:=ok.b
 have okc:=ok.c
 have okd:=ok.d
 simp only at okb okc okd
 have hbA:Below w.heap.size w (((w.alloc (.cells (PP p x1 y1 x2 y2 x3 y3 x4 y4) 54)).alloc (.cells (RV rk ra rb rc rd rn rt la rl.length lc) 34)).alloc (.cells PZ 54)):=(((Below.refl _ _).alloc (Nat.le_refl _) _).alloc (by simp) _).alloc (by simp;omega) _
 have HBA:=hid hbA
 have HX:Hid ((((w.alloc (.cells (PP p x1 y1 x2 y2 x3 y3 x4 y4) 54)).alloc (.cells (RV rk ra rb rc rd rn rt la rl.length lc) 34)).alloc (.cells PZ 54)).heap[w.heap.size]?=some (.cells (PP p x1 y1 x2 y2 x3 y3 x4 y4) 54)∧(((w.alloc (.cells (PP p x1 y1 x2 y2 x3 y3 x4 y4) 54)).alloc (.cells (RV rk ra rb rc rd rn rt la rl.length lc) 34)).alloc (.cells PZ 54)).heap[w.heap.size+1]?=some (.cells (RV rk ra rb rc rd rn rt la rl.length lc) 34)∧(((w.alloc (.cells (PP p x1 y1 x2 y2 x3 y3 x4 y4) 54)).alloc (.cells (RV rk ra rb rc rd rn rt la rl.length lc) 34)).alloc (.cells PZ 54)).heap[w.heap.size+2]?=some (.cells PZ 54)∧(((w.alloc (.cells (PP p x1 y1 x2 y2 x3 y3 x4 y4) 54)).alloc (.cells (RV rk ra rb rc rd rn rt la rl.length lc) 34)).alloc (.cells PZ 54)).heap.size=w.heap.size+3):=by
  refine ⟨?_,?_,?_,by simp⟩
  ·rw [Below.heap_alloc _ _ _ (by simp;omega),Below.heap_alloc _ _ _ (by simp)];exact heap_alloc_new _ _
  ·rw [Below.heap_alloc _ _ _ (by simp)]
   have:=heap_alloc_new (w.alloc (.cells (PP p x1 y1 x2 y2 x3 y3 x4 y4) 54)) (.cells (RV rk ra rb rc rd rn rt la rl.length lc) 34)
   rw [show (w.alloc (.cells (PP p x1 y1 x2 y2 x3 y3 x4 y4) 54)).heap.size=w.heap.size+1 by simp] at this
   exact this
  ·have:=heap_alloc_new ((w.alloc (.cells (PP p x1 y1 x2 y2 x3 y3 x4 y4) 54)).alloc (.cells (RV rk ra rb rc rd rn rt la rl.length lc) 34)) (.cells PZ 54)
   rw [show ((w.alloc (.cells (PP p x1 y1 x2 y2 x3 y3 x4 y4) 54)).alloc (.cells (RV rk ra rb rc rd rn rt la rl.length lc) 34)).heap.size=w.heap.size+2 by simp] at this
   exact this
 have HI:=hid (h.under hbA)
 have HPW:=hid (HP.out.under hbA)
 have HLW:=hid (HL.out.under hbA)
 clear h hp hbA HP HL ok
 go_enter Tryz.func162,Tryz.ntmps162
 go_upto_region 1 with fail
 generalize (((w.alloc (.cells (PP p x1 y1 x2 y2 x3 y3 x4 y4) 54)).alloc (.cells (RV rk ra rb rc rd rn rt la rl.length lc) 34)).alloc (.cells PZ 54))=W at *
 obtain ⟨x,hx⟩:∃ x,x=w.heap.size:=⟨_,rfl⟩
 rw [← hx] at HX HBA ⊢
 have HXW:=hid hx
 clear hx
 have i1:¬ x+2=x:=by omega
 have i2:¬ x+2=x+1:=by omega
 have i3:¬ x=x+2:=by omega
 have i4:¬ x+1=x+2:=by omega
 have HUP:=hid (up_any (HI.out.under (Below.refl _ W).drew))
 have HM:Hid (∀ V,Below W.heap.size W V→V.cell? ⟨x,0,none⟩=some (.int .i64 p.id)∧V.cell? ⟨x,1,none⟩=some (.int .i64 p.leader)∧V.cell? ⟨x,2,none⟩=some (.int .i64 p.epoch)∧V.cell? ⟨x,3,none⟩=some (.int .i64 p.ver)∧V.cell? ⟨x,4,none⟩=some (.slice x1 p.isr.length y1)∧V.cell? ⟨x,5,none⟩=some (.slice x2 p.reps.length y2)∧V.cell? ⟨x,6,none⟩=some (.slice x3 p.add.length y3)∧V.cell? ⟨x,7,none⟩=some (.slice x4 p.rem.length y4)∧V.cell? ⟨x,8,none⟩=some (.int .i64 p.min)∧V.cell? ⟨x+1,7,none⟩=some (.slice la rl.length lc)):=fun V hV=>⟨kept_cell hV (cell_blk HX.out.1 0 _ rfl),kept_cell hV (cell_blk HX.out.1 1 _ rfl),kept_cell hV (cell_blk HX.out.1 2 _ rfl),kept_cell hV (cell_blk HX.out.1 3 _ rfl),kept_cell hV (cell_blk HX.out.1 4 _ rfl),kept_cell hV (cell_blk HX.out.1 5 _ rfl),kept_cell hV (cell_blk HX.out.1 6 _ rfl),kept_cell hV (cell_blk HX.out.1 7 _ rfl),kept_cell hV (cell_blk HX.out.1 8 _ rfl),kept_cell hV (cell_blk HX.out.2.1 7 _ rfl)⟩
 obtain ⟨k0,k1,k2,k3,k4,k5,k6,k7,k8,l7⟩:=HM.out W (Below.refl _ _)
 have HDC:Hid (∀ V uv,Below W.drew.heap.size W.drew V→IL V uv (upL I.brs)→Calls Tryz.prog 184 #[.agg (PP p x1 y1 x2 y2 x3 y3 x4 y4),.slice la rl.length lc,uv] V fun e w'=>Res (fun b=>V.heap.size≤b) V n e w'):=fun V uv hV hu=>by rw [HNN.out];exact begin_any (HPW.out.under ((Below.refl _ W).drew.trans hV)) (HLW.out.under ((Below.refl _ W).drew.trans hV)) hu
 go_region_held3 (fun V=>V.cell? ⟨x,0,none⟩=some (.int .i64 p.id)∧V.cell? ⟨x,1,none⟩=some (.int .i64 p.leader)∧V.cell? ⟨x,2,none⟩=some (.int .i64 p.epoch)∧V.cell? ⟨x,3,none⟩=some (.int .i64 p.ver)∧V.cell? ⟨x,4,none⟩=some (.slice x1 p.isr.length y1)∧V.cell? ⟨x,5,none⟩=some (.slice x2 p.reps.length y2)∧V.cell? ⟨x,6,none⟩=some (.slice x3 p.add.length y3)∧V.cell? ⟨x,7,none⟩=some (.slice x4 p.rem.length y4)∧V.cell? ⟨x,8,none⟩=some (.int .i64 p.min)∧V.cell? ⟨x+1,7,none⟩=some (.slice la rl.length lc)) (go_keep) (first | (go_at_call 24;refine HUP.out.mono ?_;rintro e V1 ⟨uv,rfl,hu1,hu2,hb1⟩;obtain ⟨ua,uc,rfl,_⟩:=hu1.shape;have HDD:=hid (HDC.out V1 _ hb1 hu1);have HB1:Hid (Below W.heap.size W V1):=(Below.refl _ W).drew.trans hb1;clear k0 k1 k2 k3 k4 k5 k6 k7 k8;obtain ⟨k0,k1,k2,k3,k4,k5,k6,k7,k8,l7⟩:=HM.out V1 HB1.out;clear hu1 hu2 hb1) | (go_at_call 184;refine HDD.out.mono ?_;rintro e V2 ⟨nv,rfl,hn1,hn2,hb2⟩;have HN1:=hid hn1;have HN2:=hid hn2;have HB2:Hid (Below W.heap.size W V2):=HB1.out.trans (hb2.mono HB1.out.size);have hs12:=HB1.out.size;obtain ⟨u1,z1,u2,z2,u3,z3,u4,z4,rfl,_⟩:=hn1.open;have zb:=(HB2.out.block (x+2) (by have:=HX.out.2.2.2;omega)).trans HX.out.2.2.1;have HZB:=hid zb;have e0:=cell_blk zb 0 _ rfl;have e1:=cell_blk zb 1 _ rfl;have e2:=cell_blk zb 2 _ rfl;have e3:=cell_blk zb 3 _ rfl;have e4:=cell_blk zb 4 _ rfl;have e5:=cell_blk zb 5 _ rfl;have e6:=cell_blk zb 6 _ rfl;have e7:=cell_blk zb 7 _ rfl;have e8:=cell_blk zb 8 _ rfl;have ef:=frz_blk zb;clear k0 k1 k2 k3 k4 k5 k6 k7 k8;obtain ⟨k0,k1,k2,k3,k4,k5,k6,k7,k8,l7⟩:=HM.out V2 HB2.out;clear hn2 hb2 zb) | fail)
 all_goals
  go_wp2_with fail
  obtain ⟨N,hN⟩:∃ N,N=puts V2 (x+2) 0 [.int .i64 n.1.id,.int .i64 n.1.leader,.int .i64 n.1.epoch,.int .i64 n.1.ver,.slice u1 n.1.isr.length z1,.slice u2 n.1.reps.length z2,.slice u3 n.1.add.length z3,.slice u4 n.1.rem.length z4,.int .i64 n.1.min]:=⟨_,rfl⟩
  have HR:PutsR V2 N (x+2) 0 [.int .i64 n.1.id,.int .i64 n.1.leader,.int .i64 n.1.epoch,.int .i64 n.1.ver,.slice u1 n.1.isr.length z1,.slice u2 n.1.reps.length z2,.slice u3 n.1.add.length z3,.slice u4 n.1.rem.length z4,.int .i64 n.1.min]:=by rw [hN];exact puts_all _ _ _ _
  show bodyPost Tryz.prog Tryz.f162 _ Exit.ret _ (puts V2 (x+2) 0 [.int .i64 n.1.id,.int .i64 n.1.leader,.int .i64 n.1.epoch,.int .i64 n.1.ver,.slice u1 n.1.isr.length z1,.slice u2 n.1.reps.length z2,.slice u3 n.1.add.length z3,.slice u4 n.1.rem.length z4,.int .i64 n.1.min])
  rw [← hN]
  clear hN
  have hx:=HR.box9 HZB.out rfl
  have hxw:=HXW.out
  obtain ⟨s0,s1,s2,s3,s4,s5,s6,s7,s8⟩:=cells9 hx
  exact bodyPost_ret (v:=.tuple #[.agg (PP n.1 u1 z1 u2 z2 u3 z3 u4 z4),.int .i64 n.2]) (by simp [results,Tryz.results162,go_sem,s0,s1,s2,s3,s4,s5,s6,s7,s8]) rfl ⟨_,rfl,HN1.out.kept HN2.out (fun k hk=>HR.other k (by have:=HX.out.2.2.2;omega)) (by rw [HR.size];exact Nat.le_refl _),HN2.out.mono (fun k hk=>by have:=HX.out.2.2.2;omega),by rw [← hxw];exact HR.below (HBA.out.trans (HB2.out.mono (by have:=HBA.out.size;omega))) (by omega)⟩
theorem head_at:∀ (l:List Int) (h:0<l.length),headL l=l[0]
 | [],h=>by simp at h
 | a :: r,_=>by simp [headL]
theorem preferring_any {w:World} {L:Nat→Prop} {q b:Nat} {vt vp ve:Value} {ps:List (Value × Pt)} {I:Im} (h:ImC w L q b vt vp ve ps I) {pv rv:Value} {p:Pt} {r:Rc} (hp:PartM w pv p) (hr:RecM w rv r) (hne:0<p.reps.length):Calls Tryz.prog 165 #[.pointer (some ⟨q,0,none⟩),pv,rv] w fun e w'=>Res (fun b=>w.heap.size≤b) w (preferP I.brs p) e w':=by
 have HP:=hid hp
 have hreps:=hp
 obtain ⟨x1,y1,x2,y2,x3,y3,x4,y4,rfl,_,q2,_⟩:=hp.open
 obtain ⟨⟨lv,rfl,hil⟩,ok,hname⟩:=hr
 obtain ⟨⟨la,lc,rfl,_⟩,_⟩:=hil
 obtain ⟨rk,ra,rb,rc,rd,rn,rt,rl⟩:=r
 have hbA:Below w.heap.size w (((w.alloc (.cells (PP p x1 y1 x2 y2 x3 y3 x4 y4) 54)).alloc (.cells (RV rk ra rb rc rd rn rt la rl.length lc) 34)).alloc (.cells PZ 54)):=(((Below.refl _ _).alloc (Nat.le_refl _) _).alloc (by simp) _).alloc (by simp;omega) _
 have HBA:=hid hbA
 have HX:Hid ((((w.alloc (.cells (PP p x1 y1 x2 y2 x3 y3 x4 y4) 54)).alloc (.cells (RV rk ra rb rc rd rn rt la rl.length lc) 34)).alloc (.cells PZ 54)).heap[w.heap.size]?=some (.cells (PP p x1 y1 x2 y2 x3 y3 x4 y4) 54)∧(((w.alloc (.cells (PP p x1 y1 x2 y2 x3 y3 x4 y4) 54)).alloc (.cells (RV rk ra rb rc rd rn rt la rl.length lc) 34)).alloc (.cells PZ 54)).heap[w.heap.size+1]?=some (.cells (RV rk ra rb rc rd rn rt la rl.length lc) 34)∧(((w.alloc (.cells (PP p x1 y1 x2 y2 x3 y3 x4 y4) 54)).alloc (.cells (RV rk ra rb rc rd rn rt la rl.length lc) 34)).alloc (.cells PZ 54)).heap[w.heap.size+2]?=some (.cells PZ 54)∧(((w.alloc (.cells (PP p x1 y1 x2 y2 x3 y3 x4 y4) 54)).alloc (.cells (RV rk ra rb rc rd rn rt la rl.length lc) 34)).alloc (.cells PZ 54)).heap.size=w.heap.size+3):=by
  refine ⟨?_,?_,?_,by simp⟩
  ·rw [Below.heap_alloc _ _ _ (by simp;omega),Below.heap_alloc _ _ _ (by simp)];exact heap_alloc_new _ _
  ·rw [Below.heap_alloc _ _ _ (by simp)]
   have:=heap_alloc_new (w.alloc (.cells (PP p x1 y1 x2 y2 x3 y3 x4 y4) 54)) (.cells (RV rk ra rb rc rd rn rt la rl.length lc) 34)
   rw [show (w.alloc (.cells (PP p x1 y1 x2 y2 x3 y3 x4 y4) 54)).heap.size=w.heap.size+1 by simp] at this
   exact this
  ·have:=heap_alloc_new ((w.alloc (.cells (PP p x1 y1 x2 y2 x3 y3 x4 y4) 54)).alloc (.cells (RV rk ra rb rc rd rn rt la rl.length lc) 34)) (.cells PZ 54)
   rw [show ((w.alloc (.cells (PP p x1 y1 x2 y2 x3 y3 x4 y4) 54)).alloc (.cells (RV rk ra rb rc rd rn rt la rl.length lc) 34)).heap.size=w.heap.size+2 by simp] at this
   exact this
 have HI:=hid (h.under hbA)
 have HPW:=hid (HP.out.under hbA)
 have hq2:=q2.under hbA
 obtain ⟨⟨ra2,rc2,hs2,_,_,_,hat2⟩,hok2,_⟩:=hq2
 simp only [Value.slice.injEq] at hs2
 obtain ⟨rfl,_,rfl⟩:=hs2
 obtain ⟨rb2,ro2,rfl,hrb2,hrc2⟩:=hat2 (by intro e;rw [e] at hne;simp at hne)
 have hf0:=hrc2 0 hne
 rw [Nat.add_zero] at hf0
 obtain ⟨y,hy⟩:∃ y,y=p.reps[0]:=⟨_,rfl⟩
 have HH:Hid (headL p.reps=y):=by
  show _=_
  rw [hy]
  exact head_at p.reps hne
 have hy64:I64 y:=by rw [hy];exact hok2 _ (by simp)
 rw [← hy] at hf0
 have hlk:=HI.out.look y hy64
 have c1:=HI.out.c1
 obtain ⟨⟨lf,bu⟩,hv⟩:∃ z,valB I.brs y=z:=⟨_,rfl⟩
 rw [hv] at hlk
 simp only [Br.val] at hlk
 have hfb:=field93b
 obtain ⟨n,hn⟩:∃ n,n=preferP I.brs p:=⟨_,rfl⟩
 rw [← hn]
 have HNN:Hid (n=if !bu then (Pt.zero,19) else electP p y):=by show _=_;rw [hn];unfold preferP;rw [HH.out,hv]
 have HEL:=hid (elect_any HPW.out y hy64)
 have hne':(0:Int)<(p.reps.length:Int):=by omega
 unfold I64 at hy64
 clear h hp hbA HP ok hn hv hy hreps q2 hrc2 hok2 HH
 go_enter Tryz.func165,Tryz.ntmps165
 go_upto_region 1 with fail
 generalize (((w.alloc (.cells (PP p x1 y1 (some ⟨rb2,ro2,none⟩) y2 x3 y3 x4 y4) 54)).alloc (.cells (RV rk ra rb rc rd rn rt la rl.length lc) 34)).alloc (.cells PZ 54))=W at *
 obtain ⟨x,hx⟩:∃ x,x=w.heap.size:=⟨_,rfl⟩
 rw [← hx] at HX HBA ⊢
 have HXW:=hid hx
 clear hx
 obtain ⟨k0,k1,k2,k3,k4,k5,k6,k7,k8⟩:=cells9 HX.out.1
 cases bu with
 | false =>
  have HNE:Hid (n=(Pt.zero,19)):=by show _=_;rw [HNN.out];rfl
  have HZB:=hid HX.out.2.2.1
  have zb:=HX.out.2.2.1
  obtain ⟨e0,e1,e2,e3,e4,e5,e6,e7,e8⟩:=cells9 zb
  have ef:=frz_blk zb
  clear zb HEL HNN
  go_wp2_with fail
  rw [HNE.out]
  obtain ⟨N,hN⟩:∃ N,N=puts W (x+2) 0 [.int .i64 0,.int .i64 0,.int .i64 0,.int .i64 0,.slice none 0 0,.slice none 0 0,.slice none 0 0,.slice none 0 0,.int .i64 0]:=⟨_,rfl⟩
  have HR:PutsR W N (x+2) 0 [.int .i64 0,.int .i64 0,.int .i64 0,.int .i64 0,.slice none 0 0,.slice none 0 0,.slice none 0 0,.slice none 0 0,.int .i64 0]:=by rw [hN];exact puts_all _ _ _ _
  show bodyPost Tryz.prog Tryz.f165 _ Exit.ret _ (puts W (x+2) 0 [.int .i64 0,.int .i64 0,.int .i64 0,.int .i64 0,.slice none 0 0,.slice none 0 0,.slice none 0 0,.slice none 0 0,.int .i64 0])
  rw [← hN]
  clear hN
  have hx:=HR.box9 HZB.out rfl
  have hxw:=HXW.out
  obtain ⟨s0,s1,s2,s3,s4,s5,s6,s7,s8⟩:=cells9 hx
  exact bodyPost_ret (v:=.tuple #[.agg PZ,.int .i64 19]) (by simp [results,Tryz.results165,go_sem,s0,s1,s2,s3,s4,s5,s6,s7,s8]) rfl ⟨_,rfl,partZ _,inZ _,by rw [← hxw];exact HR.below HBA.out (by omega)⟩
 | true =>
  have HNE:Hid (n=electP p y):=by show _=_;rw [HNN.out];rfl
  rw [← HNE.out] at HEL
  clear HNN
  go_wp2_with fail
  refine HEL.out.mono ?_
  rintro e V2 ⟨nv,rfl,hn1,hn2,hb2⟩
  have HN1:=hid hn1
  have HN2:=hid hn2
  obtain ⟨u1,z1,u2,z2,u3,z3,u4,z4,rfl,_⟩:=hn1.open
  have zb:=(hb2.block (x+2) (by have:=HX.out.2.2.2;omega)).trans HX.out.2.2.1
  have HZB:=hid zb
  have HB2:=hid hb2
  obtain ⟨e0,e1,e2,e3,e4,e5,e6,e7,e8⟩:=cells9 zb
  have ef:=frz_blk zb
  clear zb HEL hn2 hb2
  go_wp2_with fail
  obtain ⟨N,hN⟩:∃ N,N=puts V2 (x+2) 0 [.int .i64 n.1.id,.int .i64 n.1.leader,.int .i64 n.1.epoch,.int .i64 n.1.ver,.slice u1 n.1.isr.length z1,.slice u2 n.1.reps.length z2,.slice u3 n.1.add.length z3,.slice u4 n.1.rem.length z4,.int .i64 n.1.min]:=⟨_,rfl⟩
  have HR:PutsR V2 N (x+2) 0 [.int .i64 n.1.id,.int .i64 n.1.leader,.int .i64 n.1.epoch,.int .i64 n.1.ver,.slice u1 n.1.isr.length z1,.slice u2 n.1.reps.length z2,.slice u3 n.1.add.length z3,.slice u4 n.1.rem.length z4,.int .i64 n.1.min]:=by rw [hN];exact puts_all _ _ _ _
  show bodyPost Tryz.prog Tryz.f165 _ Exit.ret _ (puts V2 (x+2) 0 [.int .i64 n.1.id,.int .i64 n.1.leader,.int .i64 n.1.epoch,.int .i64 n.1.ver,.slice u1 n.1.isr.length z1,.slice u2 n.1.reps.length z2,.slice u3 n.1.add.length z3,.slice u4 n.1.rem.length z4,.int .i64 n.1.min])
  rw [← hN]
  clear hN
  have hx:=HR.box9 HZB.out rfl
  have hxw:=HXW.out
  obtain ⟨s0,s1,s2,s3,s4,s5,s6,s7,s8⟩:=cells9 hx
  exact bodyPost_ret (v:=.tuple #[.agg (PP n.1 u1 z1 u2 z2 u3 z3 u4 z4),.int .i64 n.2]) (by simp [results,Tryz.results165,go_sem,s0,s1,s2,s3,s4,s5,s6,s7,s8]) rfl ⟨_,rfl,HN1.out.kept HN2.out (fun k hk=>HR.other k (by have:=HX.out.2.2.2;omega)) (by rw [HR.size];exact Nat.le_refl _),HN2.out.mono (fun k hk=>by have:=HX.out.2.2.2;omega),by rw [← hxw];exact HR.below (HBA.out.trans (HB2.out.mono (by have:=HBA.out.size;omega))) (by omega)⟩
theorem turnOf_any (k:Int) (w:World) (hk:I64 k):Calls Tryz.prog 122 #[.int .i64 k] w fun e w'=>e=.returned (.func (.func (if k=5 then 161 else if k=6 then 162 else if k=7 then 163 else if k=10 then 164 else 165)) #[] #[])∧w=w':=by
 unfold I64 at hk
 by_cases h5:k=5
 ·subst h5
  show Calls Tryz.prog 122 #[.int .i64 5] w fun e w'=>e=.returned (.func (.func 161) #[] #[])∧w=w'
  go_enter Tryz.func122,Tryz.ntmps122
  go_wp2_with fail
  go_ret
  exact ⟨rfl,rfl⟩
 by_cases h6:k=6
 ·subst h6
  show Calls Tryz.prog 122 #[.int .i64 6] w fun e w'=>e=.returned (.func (.func 162) #[] #[])∧w=w'
  go_enter Tryz.func122,Tryz.ntmps122
  go_wp2_with fail
  go_ret
  exact ⟨rfl,rfl⟩
 by_cases h7:k=7
 ·subst h7
  show Calls Tryz.prog 122 #[.int .i64 7] w fun e w'=>e=.returned (.func (.func 163) #[] #[])∧w=w'
  go_enter Tryz.func122,Tryz.ntmps122
  go_wp2_with fail
  go_ret
  exact ⟨rfl,rfl⟩
 by_cases h10:k=10
 ·subst h10
  show Calls Tryz.prog 122 #[.int .i64 10] w fun e w'=>e=.returned (.func (.func 164) #[] #[])∧w=w'
  go_enter Tryz.func122,Tryz.ntmps122
  go_wp2_with fail
  go_ret
  exact ⟨rfl,rfl⟩
 rw [if_neg h5,if_neg h6,if_neg h7,if_neg h10]
 go_enter Tryz.func122,Tryz.ntmps122
 go_wp2_with fail
 go_ret
 exact ⟨rfl,rfl⟩
end Go.Proofs.YtcffomhcmilcpaaGreat
