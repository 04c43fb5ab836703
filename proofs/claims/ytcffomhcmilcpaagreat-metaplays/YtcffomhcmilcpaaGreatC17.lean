/- What a kind of record makes of a partition's state. -/
import Derived.Test.YtcffomhcmilcpaaGreatC9
import Derived.Test.YtcffomhcmilcpaaGreatC13
import Derived.Test.YtcffomhcmilcpaaGreatC14
import Derived.Test.YtcffomhcmilcpaaGreatC15
import Derived.Test.YtcffomhcmilcpaaGreatC4
import Derived.Test.YtcffomhcmilcpaaGreatC16
set_option maxRecDepth 100000
set_option maxHeartbeats 20000000
set_option linter.unusedVariables false
set_option linter.unusedSimpArgs false
namespace Go.Proofs.YtcffomhcmilcpaaGreat
open Go.RowKit Go.Maps
theorem kaltered_any {w:World} {L:Nat→Prop} {q b:Nat} {vt vp ve:Value} {ps:List (Value × Pt)} {I:Im} (h:ImC w L q b vt vp ve ps I) {pv rv:Value} {p:Pt} {r:Rc} (hp:PartM w pv p) (hr:RecM w rv r):Calls Tryz.prog 161 #[.pointer (some ⟨q,0,none⟩),pv,rv] w fun e w'=>Res (fun b=>w.heap.size≤b) w (alterP p r.b r.c r.d r.list (upL I.brs)) e w':=by
 have HP:=hid hp
 obtain ⟨x1,y1,x2,y2,x3,y3,x4,y4,rfl,_⟩:=hp.open
 obtain ⟨⟨lv,rfl,hil⟩,ok,hname⟩:=hr
 have HL:=hid hil
 obtain ⟨⟨la,lc,rfl,_⟩,_⟩:=hil
 obtain ⟨rk,ra,rb,rc,rd,rn,rt,rl⟩:=r
 simp only at ok hname HL ⊢
 obtain ⟨n,hn⟩:∃ n,n=alterP p rb rc rd rl (upL I.brs):=⟨_,rfl⟩
 rw [← hn]
 have HNN:=hid hn
 clear hn
 have okb:=ok.b
 have okc:=ok.c
 have okd:=ok.d
 simp only at okb okc okd
 have hbA:Below w.heap.size w (((w.alloc (.cells (PP p x1 y1 x2 y2 x3 y3 x4 y4) 54)).alloc (.cells (RV rk ra rb rc rd rn rt la rl.length lc) 34)).alloc (.cells PZ 54)):=(((Below.refl _ _).alloc (Nat.le_refl _) _).alloc (by simp) _).alloc (by simp;omega) _
 have HBA:=hid hbA
 have HX:Hid ((((w.alloc (.cells (PP p x1 y1 x2 y2 x3 y3 x4 y4) 54)).alloc (.cells (RV rk ra rb rc rd rn rt la rl.length lc) 34)).alloc (.cells PZ 54)).heap[w.heap.size]?=some (.cells (PP p x1 y1 x2 y2 x3 y3 x4 y4) 54)∧(((w.alloc (.cells (PP p x1 y1 x2 y2 x3 y3 x4 y4) 54)).alloc (.cells (RV rk ra rb rc rd rn rt la rl.length lc) 34)).alloc (.cells PZ 54)).heap[w.heap.size+1]?=some (.cells (RV rk ra rb rc rd rn rt la rl.length lc) 34)∧(((w.alloc (.cells (PP p x1 y1 x2 y2 x3 y3 x4 y4) 54)).alloc (.cells (RV rk ra rb rc rd rn rt la rl.length lc) 34)).alloc (.cells PZ 54)).heap[w.heap.size+2]?=some (.cells PZ 54)∧(((w.alloc (.cells (PP p x1 y1 x2 y2 x3 y3 x4 y4) 54)).alloc (.cells (RV rk ra rb rc rd rn rt la rl.length lc) 34)).alloc (.cells PZ 54)).heap.size=w.heap.size+3):=by
  refine ⟨?_,?_,?_,by simp⟩
  ·rw [Below.heap_alloc _ _ _ (by simp;omega),Below.heap_alloc _ _ _ (by simp)];exact heap_alloc_new _ _
  ·rw [Below.heap_alloc _ _ _ (by simp)]
   have:=heap_alloc_new (w.alloc (.cells (PP p x1 y1 x2 y2 x3 y3 x4 y4) 54)) (.cells (RV rk ra rb rc rd rn rt la rl.length lc) 34)
   rw [show (w.alloc (.cells (PP p x1 y1 x2 y2 x3 y3 x4 y4) 54)).heap.size=w.heap.size+1 by simp] at this
   exact this
  ·have:=heap_alloc_new ((w.alloc (.cells (PP p x1 y1 x2 y2 x3 y3 x4 y4) 54)).alloc (.cells (RV rk ra rb rc rd rn rt la rl.length lc) 34)) (.cells PZ 54)
   rw [show ((w.alloc (.cells (PP p x1 y1 x2 y2 x3 y3 x4 y4) 54)).alloc (.cells (RV rk ra rb rc rd rn rt la rl.length lc) 34)).heap.size=w.heap.size+2 by simp] at this
   exact this
 have HI:=hid (h.under hbA)
 have HPW:=hid (HP.out.under hbA)
 have HLW:=hid (HL.out.under hbA)
 clear h hp hbA HP HL ok
 go_enter Tryz.func161,Tryz.ntmps161
 go_upto_region 1 with fail
 generalize (((w.alloc (.cells (PP p x1 y1 x2 y2 x3 y3 x4 y4) 54)).alloc (.cells (RV rk ra rb rc rd rn rt la rl.length lc) 34)).alloc (.cells PZ 54))=W at *
 obtain ⟨x,hx⟩:∃ x,x=w.heap.size:=⟨_,rfl⟩
 rw [← hx] at HX HBA ⊢
 have HXW:=hid hx
 clear hx
 have i1:¬ x+2=x:=by omega
 have i2:¬ x+2=x+1:=by omega
 have i3:¬ x=x+2:=by omega
 have i4:¬ x+1=x+2:=by omega
 have HUP:=hid (up_any (HI.out.under (Below.refl _ W).drew))
 have HM:Hid (∀ V,Below W.heap.size W V→V.cell? ⟨x,0,none⟩=some (.int .i64 p.id)∧V.cell? ⟨x,1,none⟩=some (.int .i64 p.leader)∧V.cell? ⟨x,2,none⟩=some (.int .i64 p.epoch)∧V.cell? ⟨x,3,none⟩=some (.int .i64 p.ver)∧V.cell? ⟨x,4,none⟩=some (.slice x1 p.isr.length y1)∧V.cell? ⟨x,5,none⟩=some (.slice x2 p.reps.length y2)∧V.cell? ⟨x,6,none⟩=some (.slice x3 p.add.length y3)∧V.cell? ⟨x,7,none⟩=some (.slice x4 p.rem.length y4)∧V.cell? ⟨x,8,none⟩=some (.int .i64 p.min)∧V.cell? ⟨x+1,2,none⟩=some (.int .i64 rb)∧V.cell? ⟨x+1,3,none⟩=some (.int .i64 rc)∧V.cell? ⟨x+1,4,none⟩=some (.int .i64 rd)∧V.cell? ⟨x+1,7,none⟩=some (.slice la rl.length lc)):=fun V hV=>⟨kept_cell hV (cell_blk HX.out.1 0 _ rfl),kept_cell hV (cell_blk HX.out.1 1 _ rfl),kept_cell hV (cell_blk HX.out.1 2 _ rfl),kept_cell hV (cell_blk HX.out.1 3 _ rfl),kept_cell hV (cell_blk HX.out.1 4 _ rfl),kept_cell hV (cell_blk HX.out.1 5 _ rfl),kept_cell hV (cell_blk HX.out.1 6 _ rfl),kept_cell hV (cell_blk HX.out.1 7 _ rfl),kept_cell hV (cell_blk HX.out.1 8 _ rfl),kept_cell hV (cell_blk HX.out.2.1 2 _ rfl),kept_cell hV (cell_blk HX.out.2.1 3 _ rfl),kept_cell hV (cell_blk HX.out.2.1 4 _ rfl),kept_cell hV (cell_blk HX.out.2.1 7 _ rfl)⟩
 obtain ⟨k0,k1,k2,k3,k4,k5,k6,k7,k8,l2,l3,l4,l7⟩:=HM.out W (Below.refl _ _)
 have HDC:Hid (∀ V uv,Below W.drew.heap.size W.drew V→IL V uv (upL I.brs)→Calls Tryz.prog 183 #[.agg (PP p x1 y1 x2 y2 x3 y3 x4 y4),.int .i64 rb,.int .i64 rc,.int .i64 rd,.slice la rl.length lc,uv] V fun e w'=>Res (fun b=>V.heap.size≤b) V n e w'):=fun V uv hV hu=>by rw [HNN.out];exact alter_any (HPW.out.under ((Below.refl _ W).drew.trans hV)) rb rc rd okb okc okd (HLW.out.under ((Below.refl _ W).drew.trans hV)) hu
 go_region_held3 (fun V=>V.cell? ⟨x,0,none⟩=some (.int .i64 p.id)∧V.cell? ⟨x,1,none⟩=some (.int .i64 p.leader)∧V.cell? ⟨x,2,none⟩=some (.int .i64 p.epoch)∧V.cell? ⟨x,3,none⟩=some (.int .i64 p.ver)∧V.cell? ⟨x,4,none⟩=some (.slice x1 p.isr.length y1)∧V.cell? ⟨x,5,none⟩=some (.slice x2 p.reps.length y2)∧V.cell? ⟨x,6,none⟩=some (.slice x3 p.add.length y3)∧V.cell? ⟨x,7,none⟩=some (.slice x4 p.rem.length y4)∧V.cell? ⟨x,8,none⟩=some (.int .i64 p.min)∧V.cell? ⟨x+1,2,none⟩=some (.int .i64 rb)∧V.cell? ⟨x+1,3,none⟩=some (.int .i64 rc)∧V.cell? ⟨x+1,4,none⟩=some (.int .i64 rd)∧V.cell? ⟨x+1,7,none⟩=some (.slice la rl.length lc)) (go_keep) (first | (go_at_call 24;refine HUP.out.mono ?_;rintro e V1 ⟨uv,rfl,hu1,hu2,hb1⟩;obtain ⟨ua,uc,rfl,_⟩:=hu1.shape;have HDD:=hid (HDC.out V1 _ hb1 hu1);have HB1:Hid (Below W.heap.size W V1):=(Below.refl _ W).drew.trans hb1;clear k0 k1 k2 k3 k4 k5 k6 k7 k8;obtain ⟨k0,k1,k2,k3,k4,k5,k6,k7,k8,l2,l3,l4,l7⟩:=HM.out V1 HB1.out;clear hu1 hu2 hb1) | (go_at_call 183;refine HDD.out.mono ?_;rintro e V2 ⟨nv,rfl,hn1,hn2,hb2⟩;have HN1:=hid hn1;have HN2:=hid hn2;have HB2:Hid (Below W.heap.size W V2):=HB1.out.trans (hb2.mono HB1.out.size);have hs12:=HB1.out.size;obtain ⟨u1,z1,u2,z2,u3,z3,u4,z4,rfl,_⟩:=hn1.open;have zb:=(HB2.out.block (x+2) (by have:=HX.out.2.2.2;omega)).trans HX.out.2.2.1;have HZB:=hid zb;have e0:=cell_blk zb 0 _ rfl;have e1:=cell_blk zb 1 _ rfl;have e2:=cell_blk zb 2 _ rfl;have e3:=cell_blk zb 3 _ rfl;have e4:=cell_blk zb 4 _ rfl;have e5:=cell_blk zb 5 _ rfl;have e6:=cell_blk zb 6 _ rfl;have e7:=cell_blk zb 7 _ rfl;have e8:=cell_blk zb 8 _ rfl;have ef:=frz_blk zb;clear k0 k1 k2 k3 k4 k5 k6 k7 k8;obtain ⟨k0,k1,k2,k3,k4,k5,k6,k7,k8,l2,l3,l4,l7⟩:=HM.out V2 HB2.out;clear hn2 hb2 zb) | fail)
 all_goals
  go_wp2_with fail
  obtain ⟨N,hN⟩:∃ N,N=puts V2 (x+2) 0 [.int .i64 n.1.id,.int .i64 n.1.leader,.int .i64 n.1.epoch,.int .i64 n.1.ver,.slice u1 n.1.isr.length z1,.slice u2 n.1.reps.length z2,.slice u3 n.1.add.length z3,.slice u4 n.1.rem.length z4,.int .i64 n.1.min]:=⟨_,rfl⟩
  have HR:PutsR V2 N (x+2) 0 [.int .i64 n.1.id,.int .i64 n.1.leader,.int .i64 n.1.epoch,.int .i64 n.1.ver,.slice u1 n.1.isr.length z1,.slice u2 n.1.reps.length z2,.slice u3 n.1.add.length z3,.slice u4 n.1.rem.length z4,.int .i64 n.1.min]:=by rw [hN];exact puts_all _ _ _ _
  show bodyPost Tryz.prog Tryz.f161 _ Exit.ret _ (puts V2 (x+2) 0 [.int .i64 n.1.id,.int .i64 n.1.leader,.int .i64 n.1.epoch,.int .i64 n.1.ver,.slice u1 n.1.isr.length z1,.slice u2 n.1.reps.length z2,.slice u3 n.1.add.length z3,.slice u4 n.1.rem.length z4,.int .i64 n.1.min])
  rw [← hN]
  clear hN
  have hx:=HR.box9 HZB.out rfl
  have hxw:=HXW.out
  obtain ⟨s0,s1,s2,s3,s4,s5,s6,s7,s8⟩:=cells9 hx
  exact bodyPost_ret (v:=.tuple #[.agg (PP n.1 u1 z1 u2 z2 u3 z3 u4 z4),.int .i64 n.2]) (by simp [results,Tryz.results161,go_sem,s0,s1,s2,s3,s4,s5,s6,s7,s8]) rfl ⟨_,rfl,HN1.out.kept HN2.out (fun k hk=>HR.other k (by have:=HX.out.2.2.2;omega)) (by rw [HR.size];exact Nat.le_refl _),HN2.out.mono (fun k hk=>by have:=HX.out.2.2.2;omega),by rw [← hxw];exact HR.below (HBA.out.trans (HB2.out.mono (by have:=HBA.out.size;omega))) (by omega)⟩
def TB (W:World) (n:Pt × Int) (s7 s8:Value) (V:World):Prop:=∃ y u1 u2 u3 u4 z1 z2 z3 z4,s7=.pointer (some ⟨y,0,none⟩)∧s8=.int .i64 n.2∧V.heap[y]?=some (.cells #[.int .i64 n.1.id,.int .i64 n.1.leader,.int .i64 n.1.epoch,.int .i64 n.1.ver,.slice u1 n.1.isr.length z1,.slice u2 n.1.reps.length z2,.slice u3 n.1.add.length z3,.slice u4 n.1.rem.length z4,.int .i64 n.1.min] 54)∧PartM V (.agg #[.int .i64 n.1.id,.int .i64 n.1.leader,.int .i64 n.1.epoch,.int .i64 n.1.ver,.slice u1 n.1.isr.length z1,.slice u2 n.1.reps.length z2,.slice u3 n.1.add.length z3,.slice u4 n.1.rem.length z4,.int .i64 n.1.min]) n.1∧InP (fun k=>W.heap.size≤k) (.agg #[.int .i64 n.1.id,.int .i64 n.1.leader,.int .i64 n.1.epoch,.int .i64 n.1.ver,.slice u1 n.1.isr.length z1,.slice u2 n.1.reps.length z2,.slice u3 n.1.add.length z3,.slice u4 n.1.rem.length z4,.int .i64 n.1.min]) n.1∧Below W.heap.size W V∧W.heap.size≤y
theorem TB.made {W V:World} {n:Pt × Int} {u1 u2 u3 u4:Option Addr} {z1 z2 z3 z4:Nat} (h1:PartM V (.agg #[.int .i64 n.1.id,.int .i64 n.1.leader,.int .i64 n.1.epoch,.int .i64 n.1.ver,.slice u1 n.1.isr.length z1,.slice u2 n.1.reps.length z2,.slice u3 n.1.add.length z3,.slice u4 n.1.rem.length z4,.int .i64 n.1.min]) n.1) (h2:InP (fun k=>W.heap.size≤k) (.agg #[.int .i64 n.1.id,.int .i64 n.1.leader,.int .i64 n.1.epoch,.int .i64 n.1.ver,.slice u1 n.1.isr.length z1,.slice u2 n.1.reps.length z2,.slice u3 n.1.add.length z3,.slice u4 n.1.rem.length z4,.int .i64 n.1.min]) n.1) (hb:Below W.heap.size W V):TB W n (.pointer (some ⟨V.heap.size,0,none⟩)) (.int .i64 n.2) (V.alloc (.cells #[.int .i64 n.1.id,.int .i64 n.1.leader,.int .i64 n.1.epoch,.int .i64 n.1.ver,.slice u1 n.1.isr.length z1,.slice u2 n.1.reps.length z2,.slice u3 n.1.add.length z3,.slice u4 n.1.rem.length z4,.int .i64 n.1.min] 54)) :=
  ⟨_,u1,u2,u3,u4,z1,z2,z3,z4,rfl,rfl,heap_alloc_new _ _,h1.under ((Below.refl _ _).alloc (Nat.le_refl _) _),h2,hb.alloc hb.size _,hb.size⟩
theorem TB.put {W V:World} {n:Pt × Int} {u1 u2 u3 u4:Option Addr} {z1 z2 z3 z4:Nat} (h1:PartM V (.agg #[.int .i64 n.1.id,.int .i64 n.1.leader,.int .i64 n.1.epoch,.int .i64 n.1.ver,.slice u1 n.1.isr.length z1,.slice u2 n.1.reps.length z2,.slice u3 n.1.add.length z3,.slice u4 n.1.rem.length z4,.int .i64 n.1.min]) n.1) (h2:InP (fun k=>W.heap.size+1≤k) (.agg #[.int .i64 n.1.id,.int .i64 n.1.leader,.int .i64 n.1.epoch,.int .i64 n.1.ver,.slice u1 n.1.isr.length z1,.slice u2 n.1.reps.length z2,.slice u3 n.1.add.length z3,.slice u4 n.1.rem.length z4,.int .i64 n.1.min]) n.1) (hb:Below W.heap.size W V) (hz:V.heap[W.heap.size]?=some (.cells #[.int .i64 0,.int .i64 0,.int .i64 0,.int .i64 0,.slice none 0 0,.slice none 0 0,.slice none 0 0,.slice none 0 0,.int .i64 0] 54)):TB W n (.pointer (some ⟨W.heap.size,0,none⟩)) (.int .i64 n.2) (puts V W.heap.size 0 [.int .i64 n.1.id,.int .i64 n.1.leader,.int .i64 n.1.epoch,.int .i64 n.1.ver,.slice u1 n.1.isr.length z1,.slice u2 n.1.reps.length z2,.slice u3 n.1.add.length z3,.slice u4 n.1.rem.length z4,.int .i64 n.1.min]):=by
  have HR:=puts_all [.int .i64 n.1.id,.int .i64 n.1.leader,.int .i64 n.1.epoch,.int .i64 n.1.ver,.slice u1 n.1.isr.length z1,.slice u2 n.1.reps.length z2,.slice u3 n.1.add.length z3,.slice u4 n.1.rem.length z4,.int .i64 n.1.min] V W.heap.size 0
  exact ⟨_,u1,u2,u3,u4,z1,z2,z3,z4,rfl,rfl,HR.box9 hz rfl,h1.kept h2 (fun k hk=>HR.other k (by omega)) (by rw [HR.size];exact Nat.le_refl _),h2.mono (fun k hk=>by omega),HR.below hb (Nat.le_refl _),Nat.le_refl _⟩
theorem rules_right {p q:Pt} {k i:Int} (h:Rules p q k) (hi:p.id=i):RightP q∧q.id=i:=⟨h.1,by
  rcases h.2 with e | e
  · rw [e];exact hi
  · rw [e.1];exact hi⟩
theorem reps_some {p:Pt} (h:RightP p):0<p.reps.length:=by
  rcases Nat.eq_zero_or_pos p.reps.length with e | e
  · have e2:=List.eq_nil_of_length_eq_zero e
    exact absurd (by rw [e2];rfl) h.left
  · exact e
theorem turn_right {bs:BM} {r:Rc} {p:Pt} {i:Int} (hp:RightP p) (hi:p.id=i) (h:(turnP bs r p).2=0):RightP (turnP bs r p).1∧(turnP bs r p).1.id=i:=by
  have e:turnP bs r p=((turnP bs r p).1,0):=by rw [← h]
  generalize (turnP bs r p).1=q at *
  unfold turnP at e
  split at e
  · exact rules_right (alter_rules (k:=0) hp e) hi
  · split at e
    · exact rules_right (begin_rules (k:=0) hp e) hi
    · split at e
      · exact rules_right (cancel_rules hp e) hi
      · split at e
        · exact rules_right (finish_rules hp e) hi
        · unfold preferP at e
          split at e
          · cases e
          · exact rules_right (elect_rules (k:=0) hp e) hi
theorem turn_code (bs:BM) (r:Rc) (p:Pt):I64 (turnP bs r p).2:=by
  unfold turnP alterP beginP cancelP finishP preferP electP settledP heldP
  repeat (first | exact changed_code _ _ | (split) | (unfold I64;simp))
theorem kturn_one {w:World} {Z:Nat→Prop} {q:Nat} {I:Im} (hi:Img w Z q I) {v:Value} {r:Rc} (hr:RecM w v r) (hkd:r.kind=5∨r.kind=6∨r.kind=7∨r.kind=10∨r.kind=9):Calls Tryz.prog 72 #[.pointer (some ⟨q,0,none⟩),v] w fun e w'=>e=.returned (.tuple #[.int .i64 (turnI I r).2.1,.int .i64 (turnI I r).2.2])∧IAfter Z w w' q (turnI I r).1:=by
  obtain ⟨L,b,vt,vp,ve,ps,h,hz1,hz2,hz3⟩:=hi
  have HIMG:Hid (Img w Z q I):=⟨L,b,vt,vp,ve,ps,h,hz1,hz2,hz3⟩
  have HRM:=hid hr
  obtain ⟨⟨lv,rfl,hil⟩,ok,hname⟩:=hr
  obtain ⟨⟨la,lc,rfl,_⟩,_⟩:=hil
  obtain ⟨rk,ra,rb,rc,rd,rn,rt,rl⟩:=r
  simp only at ok hname HRM ⊢
  have oka:=ok.a
  have okb:=ok.b
  have okc:=ok.c
  simp only at oka okb okc
  have hbA:Below w.heap.size w (w.alloc (.cells #[.int .i64 rk,.int .i64 ra,.int .i64 rb,.int .i64 rc,.int .i64 rd,.string rn,.string rt,.slice la rl.length lc] 34)):=(Below.refl _ _).alloc (Nat.le_refl _) _
  have HBA:=hid hbA
  have HI:=hid (h.under hbA)
  have HRM1:=hid (HRM.out.under hbA)
  have HIO:Hid (∀ w' J,IOut L (w.alloc (.cells #[.int .i64 rk,.int .i64 ra,.int .i64 rb,.int .i64 rc,.int .i64 rd,.string rn,.string rt,.slice la rl.length lc] 34)) w' q b vt vp ve J→IAfter Z w w' q J):=fun w' J hJ=>hJ.after HIMG.out hz1 hz2 hbA
  have HIS:Hid (∀ w',Below (w.alloc (.cells #[.int .i64 rk,.int .i64 ra,.int .i64 rb,.int .i64 rc,.int .i64 rd,.string rn,.string rt,.slice la rl.length lc] 34)).heap.size (w.alloc (.cells #[.int .i64 rk,.int .i64 ra,.int .i64 rb,.int .i64 rc,.int .i64 rd,.string rn,.string rt,.slice la rl.length lc] 34)) w'→IAfter Z w w' q I):=fun w' hb=>HIMG.out.after (hbA.trans (hb.mono hbA.size))
  have hB:=heap_alloc_new w (.cells #[.int .i64 rk,.int .i64 ra,.int .i64 rb,.int .i64 rc,.int .i64 rd,.string rn,.string rt,.slice la rl.length lc] 34)
  have hqlt:q<w.heap.size:=h.lt (.inl rfl)
  have HOW:Hid (∀ k,Own q b vt vp ve k→k<w.heap.size):=fun k hk=>h.lt hk
  have hWs:(w.alloc (.cells #[.int .i64 rk,.int .i64 ra,.int .i64 rb,.int .i64 rc,.int .i64 rd,.string rn,.string rt,.slice la rl.length lc] 34)).heap.size=w.heap.size+1:=by simp
  obtain ⟨a0,a1,a2,a3,a4,a5,a6,a7⟩:=cells8 hB
  have HBX:=hid hB
  clear hbA hB h hz1 hz2 hz3 ok
  simp only at hkd
  have HKD:=hid hkd
  clear hkd
  have HF:Hid (turnI I ⟨rk,ra,rb,rc,rd,rn,rt,rl⟩=if !upB ra I.parts.length then (I,0,8) else ({ I with parts:=takeI I.parts (turnP I.brs ⟨rk,ra,rb,rc,rd,rn,rt,rl⟩ (I.parts[ra.toNat - 1]?.getD Pt.zero)) },(turnP I.brs ⟨rk,ra,rb,rc,rd,rn,rt,rl⟩ (I.parts[ra.toNat - 1]?.getD Pt.zero)).1.ver,(turnP I.brs ⟨rk,ra,rb,rc,rd,rn,rt,rl⟩ (I.parts[ra.toNat - 1]?.getD Pt.zero)).2)):=rfl
  generalize turnI I ⟨rk,ra,rb,rc,rd,rn,rt,rl⟩=R at *
  obtain ⟨oa,cap,hvp,_,_,_,hat⟩:=row_shape HI.out.parts
  have hpl:=HI.out.plen
  have hf16:=HI.out.ok.few
  rw [← hpl] at hvp hat
  subst hvp
  have HPLN:=hid hpl
  clear hpl
  have HU:=hid (fun V=>upTo_any ra (I.parts.length:Int) V oka (by unfold I64;omega))
  have c3:=HI.out.c3
  have HTO:=hid (fun V=>turnOf_any rk V HRM.out.ok.kind)
  unfold I64 at oka okb okc
  go_enter Tryz.func72,Tryz.ntmps72
  go_upto_region 1 with fail
  generalize w.alloc (.cells #[.int .i64 rk,.int .i64 ra,.int .i64 rb,.int .i64 rc,.int .i64 rd,.string rn,.string rt,.slice la rl.length lc] 34)=W at *
  obtain ⟨x,hx⟩:∃ x,x=w.heap.size:=⟨_,rfl⟩
  rw [← hx] at a0 a1 a2 a3 a4 a5 a6 a7 hWs hqlt HBX HOW ⊢
  clear hx
  obtain ⟨B,hB⟩:∃ B,upB ra (I.parts.length:Int)=B:=⟨_,rfl⟩
  rw [hB] at HU HF
  go_cut [17] from 9 to 17 (fun s17 V=>s17=.bool (!B)∧Hid (Below W.heap.size W V))
  case first =>
    have HM1:Hid (∀ V,Below W.heap.size W V→V.cell? ⟨x,1,none⟩=some (.int .i64 ra)∧V.cell? ⟨q,3,none⟩=some (.slice oa I.parts.length cap)):=fun V hV=>⟨kept_cell hV a1,kept_cell hV c3⟩
    go_region_held3 (fun V=>V.cell? ⟨x,1,none⟩=some (.int .i64 ra)∧V.cell? ⟨q,3,none⟩=some (.slice oa I.parts.length cap)) (go_keep) (first | (go_at_call 67;refine (HU.out _).mono ?_;rintro e w9 ⟨rfl,rfl⟩) | fail)
    all_goals
      go_wp2_with fail
      go_meet
      case rel=>exact ⟨rfl,by first | exact (Below.refl _ _).drew | exact below_drewN (Below.refl _ _) _ | exact Below.refl _ _⟩
  case rest =>
    obtain ⟨rfl,HBC⟩:=hcut
    cases B with
    | false =>
      rw [if_pos (show (!false)=true from rfl)] at HF
      have HS:=hid (HIS.out wc HBC.out)
      go_wp2_with fail
      go_ret2
      exact ⟨by rw [HF.out];rfl,by rw [HF.out];exact HS.out⟩
    | true =>
      rw [if_neg (by simp)] at HF
      have hup:=upB_iff.1 hB
      obtain ⟨i,hii⟩:∃ i:Nat,ra=(i:Int)+1:=⟨ra.toNat - 1,by omega⟩
      have hil:i<I.parts.length:=by omega
      have hget:I.parts[ra.toNat - 1]?.getD Pt.zero=I.parts[i]:=by rw [show ra.toNat - 1=i by omega];simp [hil]
      rw [hget] at HF
      obtain ⟨g,rfl⟩:=hat (by omega)
      have HI2:=hid (HI.out.under HBC.out)
      have hpsl:i<ps.length:=by rw [← HPLN.out];exact hil
      have hxi:ps[i]?=some ps[i]:=List.getElem?_eq_getElem hpsl
      have hpp:ps[i].2=I.parts[i]:=by
        have e:(ps.map (·.2))[i]?=some I.parts[i]:=by rw [← HI2.out.abs];exact List.getElem?_eq_getElem hil
        rw [List.getElem?_map,hxi] at e
        simpa using e
      have hpm:=(HI2.out.each ps[i] (by simp)).1
      rw [hpp] at hpm
      obtain ⟨x1,y1,x2,y2,x3,y3,x4,y4,hu,_⟩:=hpm.open
      have hrr:=fun t ht u hu'=>(HI2.out.at_ i _ hxi t ht u hu')
      rw [hu] at hpm hrr
      obtain ⟨hright,hpid⟩:=HI2.out.ok.parts i I.parts[i] (List.getElem?_eq_getElem hil)
      generalize I.parts[i]=p at *
      have HPM:=hid hpm
      have HRT:=hid hright
      have HPID:=hid hpid
      have HM:Hid (∀ V,Below wc.heap.size wc V→V.cell? ⟨q,3,none⟩=some (.slice (some ⟨g,0,none⟩) I.parts.length cap)∧V.cell? ⟨x,0,none⟩=some (.int .i64 rk)∧V.cell? ⟨x,1,none⟩=some (.int .i64 ra)∧V.cell? ⟨x,2,none⟩=some (.int .i64 rb)∧V.cell? ⟨x,3,none⟩=some (.int .i64 rc)∧V.cell? ⟨x,4,none⟩=some (.int .i64 rd)∧V.cell? ⟨x,5,none⟩=some (.string rn)∧V.cell? ⟨x,6,none⟩=some (.string rt)∧V.cell? ⟨x,7,none⟩=some (.slice la rl.length lc)∧V.cell? ⟨g,i*9,none⟩=some (.int .i64 p.id)∧V.cell? ⟨g,i*9+1,none⟩=some (.int .i64 p.leader)∧V.cell? ⟨g,i*9+2,none⟩=some (.int .i64 p.epoch)∧V.cell? ⟨g,i*9+3,none⟩=some (.int .i64 p.ver)∧V.cell? ⟨g,i*9+4,none⟩=some (.slice x1 p.isr.length y1)∧V.cell? ⟨g,i*9+5,none⟩=some (.slice x2 p.reps.length y2)∧V.cell? ⟨g,i*9+6,none⟩=some (.slice x3 p.add.length y3)∧V.cell? ⟨g,i*9+7,none⟩=some (.slice x4 p.rem.length y4)∧V.cell? ⟨g,i*9+8,none⟩=some (.int .i64 p.min)):=fun V hV=>⟨kept_cell hV HI2.out.c3,kept_cell hV (kept_cell HBC.out a0),kept_cell hV (kept_cell HBC.out a1),kept_cell hV (kept_cell HBC.out a2),kept_cell hV (kept_cell HBC.out a3),kept_cell hV (kept_cell HBC.out a4),kept_cell hV (kept_cell HBC.out a5),kept_cell hV (kept_cell HBC.out a6),kept_cell hV (kept_cell HBC.out a7),kept_cell hV (by have:=hrr 0 (by decide) _ rfl;rw [Nat.add_zero] at this;exact this),kept_cell hV (hrr 1 (by decide) _ rfl),kept_cell hV (hrr 2 (by decide) _ rfl),kept_cell hV (hrr 3 (by decide) _ rfl),kept_cell hV (hrr 4 (by decide) _ rfl),kept_cell hV (hrr 5 (by decide) _ rfl),kept_cell hV (hrr 6 (by decide) _ rfl),kept_cell hV (hrr 7 (by decide) _ rfl),kept_cell hV (hrr 8 (by decide) _ rfl)⟩
      obtain ⟨q3,b0,b1,b2,b3,b4,b5,b6,b7,r0,r1,r2,r3,r4,r5,r6,r7,r8⟩:=HM.out wc (Below.refl _ _)
      have HRM2:=hid (HRM1.out.under HBC.out)
      obtain ⟨n,hn⟩:∃ n,n=turnP I.brs ⟨rk,ra,rb,rc,rd,rn,rt,rl⟩ p:=⟨_,rfl⟩
      rw [← hn] at HF
      have HNN:=hid hn
      obtain ⟨F,hF,hFI,HTC⟩:∃ F:Nat,(F=161∨F=162∨F=163∨F=164∨F=165)∧(if rk=5 then 161 else if rk=6 then 162 else if rk=7 then 163 else if rk=10 then 164 else 165)=F∧Hid (∀ V,Below wc.heap.size wc V→Calls Tryz.prog F #[.pointer (some ⟨q,0,none⟩),.agg #[.int .i64 p.id,.int .i64 p.leader,.int .i64 p.epoch,.int .i64 p.ver,.slice x1 p.isr.length y1,.slice x2 p.reps.length y2,.slice x3 p.add.length y3,.slice x4 p.rem.length y4,.int .i64 p.min],.agg #[.int .i64 rk,.int .i64 ra,.int .i64 rb,.int .i64 rc,.int .i64 rd,.string rn,.string rt,.slice la rl.length lc]] V fun e w'=>Res (fun b=>V.heap.size≤b) V n e w'):=by
        rw [HNN.out]
        rcases HKD.out with h | h | h | h | h
        · exact ⟨161,by omega,by simp [h],fun V hV=>by (have e:turnP I.brs ⟨rk,ra,rb,rc,rd,rn,rt,rl⟩ p=alterP p rb rc rd rl (upL I.brs):=by (unfold turnP;simp [h]));rw [e];exact kaltered_any (HI2.out.under hV) (HPM.out.under hV) (HRM2.out.under hV)⟩
        · exact ⟨162,by omega,by simp [h],fun V hV=>by (have e:turnP I.brs ⟨rk,ra,rb,rc,rd,rn,rt,rl⟩ p=beginP p rl (upL I.brs):=by (unfold turnP;simp [h]));rw [e];exact kmoving_any (HI2.out.under hV) (HPM.out.under hV) (HRM2.out.under hV)⟩
        · exact ⟨163,by omega,by simp [h],fun V hV=>by (have e:turnP I.brs ⟨rk,ra,rb,rc,rd,rn,rt,rl⟩ p=cancelP p (upL I.brs):=by (unfold turnP;simp [h]));rw [e];exact staying_any (HI2.out.under hV) (HPM.out.under hV) (HRM2.out.under hV)⟩
        · exact ⟨164,by omega,by simp [h],fun V hV=>by (have e:turnP I.brs ⟨rk,ra,rb,rc,rd,rn,rt,rl⟩ p=finishP p (upL I.brs):=by (unfold turnP;simp [h]));rw [e];exact moved_any (HI2.out.under hV) (HPM.out.under hV) (HRM2.out.under hV)⟩
        · exact ⟨165,by omega,by simp [h],fun V hV=>by (have e:turnP I.brs ⟨rk,ra,rb,rc,rd,rn,rt,rl⟩ p=preferP I.brs p:=by (unfold turnP;simp [h]));rw [e];exact preferring_any (HI2.out.under hV) (HPM.out.under hV) (HRM2.out.under hV) (reps_some HRT.out)⟩
      have hxlt:x<wc.heap.size:=by have:=HBC.out.size;omega
      have hglt:g<wc.heap.size:=HI2.out.lt (.inr (.inr (.inr (.inl rfl))))
      have hqw:q<wc.heap.size:=HI2.out.lt (.inl rfl)
      have hw1:IntKind.i64.wrap (ra - 1)=(i:Int):=by rw [show ra - 1=(i:Int) by omega];exact IntWalk.i64_in _ ⟨by omega,by omega⟩
      have hil':(i:Int)<(I.parts.length:Int):=by omega
      have HII:=hid hii
      clear hii
      clear hn hget hpm hu hrr hright hpid hxi hpp a0 a1 a2 a3 a4 a5 a6 a7 c3 hB hup HPM
      generalize wc=W2 at *
      go_wp2_with fail
      refine (HTO.out _).mono ?_
      rintro e w9 ⟨rfl,rfl⟩
      rw [hFI]
      clear HTO
      have HZ:Hid (∀ V,Below (W2.alloc (.cells #[.int .i64 0,.int .i64 0,.int .i64 0,.int .i64 0,.slice none 0 0,.slice none 0 0,.slice none 0 0,.slice none 0 0,.int .i64 0] 54)).drew.heap.size (W2.alloc (.cells #[.int .i64 0,.int .i64 0,.int .i64 0,.int .i64 0,.slice none 0 0,.slice none 0 0,.slice none 0 0,.slice none 0 0,.int .i64 0] 54)).drew V→V.heap[W2.heap.size]?=some (.cells #[.int .i64 0,.int .i64 0,.int .i64 0,.int .i64 0,.slice none 0 0,.slice none 0 0,.slice none 0 0,.slice none 0 0,.int .i64 0] 54)∧Below W2.heap.size W2 V):=fun V hV=>⟨(hV.block W2.heap.size (by simp)).trans (heap_alloc_new W2 _),((Below.refl _ W2).alloc (Nat.le_refl _) _).drew.trans (hV.mono (by simp))⟩
      have HY:Hid (∀ V,Below W2.drew.heap.size W2.drew V→Below W2.heap.size W2 V):=fun V hV=>(Below.refl _ W2).drew.trans hV
      have nx:¬ x=W2.heap.size:=by omega
      have nq:¬ q=W2.heap.size:=by omega
      have ng:¬ g=W2.heap.size:=by omega
      have nx2:¬ W2.heap.size=x:=by omega
      have nq2:¬ W2.heap.size=q:=by omega
      have ng2:¬ W2.heap.size=g:=by omega
      go_wp2_with fail
      go_cut [7,8] from 7 to 36 (fun s7 s8 V=>TB W2 n s7 s8 V)
      case first =>
        rcases hF with rfl | rfl | rfl | rfl | rfl
        all_goals
         go_region_held3 (fun V=>V.cell? ⟨q,3,none⟩=some (.slice (some ⟨g,0,none⟩) I.parts.length cap)∧V.cell? ⟨x,0,none⟩=some (.int .i64 rk)∧V.cell? ⟨x,1,none⟩=some (.int .i64 ra)∧V.cell? ⟨x,2,none⟩=some (.int .i64 rb)∧V.cell? ⟨x,3,none⟩=some (.int .i64 rc)∧V.cell? ⟨x,4,none⟩=some (.int .i64 rd)∧V.cell? ⟨x,5,none⟩=some (.string rn)∧V.cell? ⟨x,6,none⟩=some (.string rt)∧V.cell? ⟨x,7,none⟩=some (.slice la rl.length lc)∧V.cell? ⟨g,i*9,none⟩=some (.int .i64 p.id)∧V.cell? ⟨g,i*9+1,none⟩=some (.int .i64 p.leader)∧V.cell? ⟨g,i*9+2,none⟩=some (.int .i64 p.epoch)∧V.cell? ⟨g,i*9+3,none⟩=some (.int .i64 p.ver)∧V.cell? ⟨g,i*9+4,none⟩=some (.slice x1 p.isr.length y1)∧V.cell? ⟨g,i*9+5,none⟩=some (.slice x2 p.reps.length y2)∧V.cell? ⟨g,i*9+6,none⟩=some (.slice x3 p.add.length y3)∧V.cell? ⟨g,i*9+7,none⟩=some (.slice x4 p.rem.length y4)∧V.cell? ⟨g,i*9+8,none⟩=some (.int .i64 p.min)) (go_keep) (first | ((first | go_at_call 161 | go_at_call 162 | go_at_call 163 | go_at_call 164 | go_at_call 165);refine (HTC.out _ (by first | exact (Below.refl _ W2).drew | exact ((Below.refl _ W2).alloc (Nat.le_refl _) _).drew | fail)).mono ?_;rintro e V2 ⟨nv,rfl,hn1,hn2,hb2⟩;have hbv:=HY.out V2 hb2;have HN1:=hid hn1;have HN2:Hid (InP (fun k=>W2.heap.size≤k) nv n.1):=hn2.mono (fun k hk=>hk);have HBV:=hid hbv;obtain ⟨u1,z1,u2,z2,u3,z3,u4,z4,rfl,_⟩:=hn1.open;obtain ⟨q3,b0,b1,b2,b3,b4,b5,b6,b7,r0,r1,r2,r3,r4,r5,r6,r7,r8⟩:=HM.out V2 HBV.out;have HTB:=hid (TB.made HN1.out HN2.out HBV.out);clear hn2 hb2 hbv) | ((first | go_at_call 161 | go_at_call 162 | go_at_call 163 | go_at_call 164 | go_at_call 165);refine (HTC.out _ (by first | exact (Below.refl _ W2).drew | exact ((Below.refl _ W2).alloc (Nat.le_refl _) _).drew | fail)).mono ?_;rintro e V2 ⟨nv,rfl,hn1,hn2,hb2⟩;obtain ⟨zb,hbv⟩:=HZ.out V2 hb2;have HN1:=hid hn1;have HN2:Hid (InP (fun k=>W2.heap.size+1≤k) nv n.1):=hn2.mono (fun k hk=>(by have e9:(W2.alloc (.cells #[.int .i64 0,.int .i64 0,.int .i64 0,.int .i64 0,.slice none 0 0,.slice none 0 0,.slice none 0 0,.slice none 0 0,.int .i64 0] 54)).drew.heap.size=W2.heap.size+1:=(by simp);omega));have HBV:=hid hbv;have HZB:=hid zb;obtain ⟨u1,z1,u2,z2,u3,z3,u4,z4,rfl,_⟩:=hn1.open;have e0:=cell_blk zb 0 _ rfl;have e1:=cell_blk zb 1 _ rfl;have e2:=cell_blk zb 2 _ rfl;have e3:=cell_blk zb 3 _ rfl;have e4:=cell_blk zb 4 _ rfl;have e5:=cell_blk zb 5 _ rfl;have e6:=cell_blk zb 6 _ rfl;have e7:=cell_blk zb 7 _ rfl;have e8:=cell_blk zb 8 _ rfl;have ef:=frz_blk zb;obtain ⟨q3,b0,b1,b2,b3,b4,b5,b6,b7,r0,r1,r2,r3,r4,r5,r6,r7,r8⟩:=HM.out V2 HBV.out;have HTB:=hid (TB.put HN1.out HN2.out HBV.out HZB.out);clear hn2 hb2 zb hbv) | fail)
        all_goals
          go_wp2_with fail
          go_meet
          case rel=>exact HTB.out
      case rest =>
        obtain ⟨y,u1,u2,u3,u4,z1,z2,z3,z4,rfl,rfl,hy,hpm2,hin2,hbl2,hyw⟩:=hcut
        have HYB:=hid hy
        have HPM2:=hid hpm2
        have HIN2:=hid hin2
        have HBL2:=hid hbl2
        have hsz2:W2.heap.size≤wc.heap.size:=hbl2.size
        have hylt:=(Array.getElem?_eq_some_iff.1 hy).1
        obtain ⟨m0,m1,m2,m3,m4,m5,m6,m7,m8⟩:=cells9 hy
        clear hy hpm2 hin2 hbl2 HZ HY q3 b0 b1 b2 b3 b4 b5 b6 b7 r0 r1 r2 r3 r4 r5 r6 r7 r8
        generalize wc=W3 at *
        by_cases h0:n.2=0
        · have hok2:RightP n.1∧n.1.id=(i:Int)+1:=by rw [HNN.out] at h0 ⊢;exact turn_right HRT.out HPID.out h0
          have HTK:=hid (take_yes (X:=fun k=>W2.heap.size≤k∧k<W3.heap.size) (HI2.out.under HBL2.out) HPM2.out (HIN2.out.and HPM2.out.old) (fun k hk=>⟨hk.2,fun ho=>by have:=HI2.out.lt ho;omega⟩) hok2.1 i (by rw [← HPLN.out];exact hil) hok2.2)
          rw [← h0] at HTK
          have HTI:Hid (takeI I.parts n=I.parts.set i n.1):=by show _=_;unfold takeI;rw [if_pos h0,hok2.2,show ((i:Int)+1 - 1).toNat=i by omega]
          rw [HTI.out] at HF
          have HFI:Hid (∀ w',ImC w' (fun k=>L k∨(W2.heap.size≤k∧k<W3.heap.size)) q b vt (.slice (some ⟨g,0,none⟩) I.parts.length cap) ve (ps.set i (.agg #[.int .i64 n.1.id,.int .i64 n.1.leader,.int .i64 n.1.epoch,.int .i64 n.1.ver,.slice u1 n.1.isr.length z1,.slice u2 n.1.reps.length z2,.slice u3 n.1.add.length z3,.slice u4 n.1.rem.length z4,.int .i64 n.1.min],n.1)) { I with parts:=I.parts.set i n.1 }→Keeps (fun k=>k=g) W3 w'→IAfter Z w w' q R.1∧w'.cell? ⟨y,3,none⟩=some (.int .i64 n.1.ver)):=fun w' j1 j2=>by
            refine ⟨?_,cell_blk ((j2.block y hylt (by omega)).trans HYB.out) 3 _ rfl⟩
            rw [HF.out]
            refine HIO.out w' _ ⟨_,_,j1,fun k hk=>hk.imp (fun e=>e) (fun e=>by have:=HBC.out.size;omega),?_⟩
            exact ((Keeps.of_below (HBC.out.trans (HBL2.out.mono HBC.out.size))).trans j2 (fun k hk=>.inl (by subst hk;exact .inr (.inr (.inr (.inl rfl))))))
          clear h0 hok2
          go_wp2_with fail
          refine HTK.out.mono ?_
          rintro e w8 ⟨rfl,j1,j2⟩
          obtain ⟨j3,j4⟩:=HFI.out w8 j1 j2
          have HJ3:=hid j3
          clear j1 j2 j3 m0 m1 m2 m3 m4 m5 m6 m7 m8
          go_wp2_with fail
          go_ret2
          exact ⟨by rw [HF.out];rfl,HJ3.out⟩
        · have HTK:=hid (take_no q HPM2.out n.2 h0 (by rw [HNN.out];exact turn_code _ _ _))
          have HTI:Hid (takeI I.parts n=I.parts):=by show _=_;unfold takeI;rw [if_neg h0]
          rw [HTI.out] at HF
          go_wp2_with fail
          refine HTK.out.mono ?_
          rintro e w8 ⟨rfl,hb8⟩
          have m3':=kept_cell hb8 m3
          have HJ3:=hid (HIS.out w8 (HBC.out.trans ((HBL2.out.trans (hb8.mono HBL2.out.size)).mono HBC.out.size)))
          clear hb8 m0 m1 m2 m3 m4 m5 m6 m7 m8
          go_wp2_with fail
          go_ret2
          exact ⟨by rw [HF.out];rfl,by rw [HF.out];exact HJ3.out⟩
theorem kturn_all {w:World} {Z:Nat→Prop} {q:Nat} {I:Im} (hi:Img w Z q I) {v:Value} {r:Rc} (hr:RecM w v r) (hk:r.kind=5∨r.kind=6∨r.kind=7∨r.kind=10∨r.kind=9):Calls Tryz.prog 72 #[.pointer (some ⟨q,0,none⟩),v] w fun e w'=>e=.returned (.tuple #[.int .i64 (turnI I r).2.1,.int .i64 (turnI I r).2.2])∧IAfter Z w w' q (turnI I r).1:=by
 exact kturn_one hi hr hk
theorem apply_all {w:World} {Z:Nat→Prop} {q:Nat} {I:Im} (hi:Img w Z q I) {v:Value} {r:Rc} (hr:RecM w v r) (hnz:InR (fun k=>¬ Z k) v r) (ha:I.applied<1000000000000) (hs:ImSum I) :
  Calls Tryz.prog 12 #[.pointer (some ⟨q,0,none⟩),v] w fun e w'=>e=.returned (.tuple #[.int .i64 (applyI I r).2.1,.int .i64 (applyI I r).2.2])∧IAfter Z w w' q (applyI I r).1:=by
 by_cases hk:r.kind=5∨r.kind=6∨r.kind=7∨r.kind=10∨r.kind=9
 ·refine apply_of hi hr hnz ha fun W hW hR=>?_
  have n1:¬ r.kind=1:=by omega
  have n2:¬ r.kind=2:=by omega
  have n3:¬ r.kind=3:=by omega
  have n4:¬ r.kind=4:=by omega
  unfold kindF doI
  rw [if_neg n1,if_neg n1,if_neg n2,if_neg n2,if_neg n3,if_neg n3,if_neg n4,if_neg n4,if_pos hk,if_pos hk]
  exact kturn_all hW hR hk
 ·exact apply_any hi hr hnz ha hs hk
theorem In.most {X Y:Nat→Prop} {lv:Value} {l:List Int} (h:In X lv l) (hxy:∀ k,X k→Y k):In Y lv l:=by
 unfold In at *
 intros
 apply hxy
 apply h <;> assumption
theorem IS.put {w W:World} {q:Nat} {I:Im} {X:Nat→Prop} (h:IS w W q I X) (hX:∀ k,X k→k<W.heap.size) (ha:I.applied<1000000000000) {v:Value} {r:Rc} (hr:RecM W v r) (hl:InR (fun k=>k<w.heap.size∨X k) v r) {n m:Int} {J:Im} (hres:applyI I r=(J,n,m)) :
  Calls Tryz.prog 12 #[.pointer (some ⟨q,0,none⟩),v] W fun e w'=>e=.returned (.tuple #[.int .i64 n,.int .i64 m])∧ISOut w W w' q J X:=by
 obtain ⟨⟨Z,h1,h2⟩,h3,h4⟩:=h
 refine (apply_all h1 hr (fun k a b c d n t lv e=>(hl k a b c d n t lv e).most fun k hk hz=>?_) ha h4).mono ?_
 ·have:=h2 k hz
  rcases hk with e | e
  ·omega
  ·exact this.2 e
 have hs:=sum_do (I:=nextI I) h4 r
 rintro e w' ⟨rfl,hA⟩
 have e1:doI (nextI I) r=(J,n,m):=hres
 rw [e1] at hs
 rw [hres] at hA ⊢
 obtain ⟨j1,j2⟩:=IS.after h3 h2 hX hs hA
 obtain ⟨_,_,_,i3⟩:=hA
 exact ⟨rfl,j1,j2,i3.size⟩
def flatB:BM→List Value
 | []=>[]
 | p :: r=>[.int .i64 p.1,.int .i64 p.2.life,.bool p.2.up]++flatB r
theorem flatB_length:∀ l:BM,(flatB l).length=l.length*3
 | []=>rfl
 | p :: r=>by simp [flatB,flatB_length r];omega
theorem flatB_append:∀ l m:BM,flatB (l++m)=flatB l++flatB m
 | [],m=>by simp [flatB]
 | p :: r,m=>by simp [flatB,flatB_append r m]
theorem flatB_get:∀ (l:BM) (i:Nat) (x:Int × Br),l[i]?=some x→(flatB l)[i*3]?=some (.int .i64 x.1)∧(flatB l)[i*3+1]?=some (.int .i64 x.2.life)∧(flatB l)[i*3+2]?=some (.bool x.2.up)
 | [],i,m,h=>by simp at h
 | y :: r,0,m,h=>by simp at h;subst h;simp [flatB]
 | y :: r,i+1,m,h=>by
  have ih:=flatB_get r i m (by simpa using h)
  have e:∀ j,(flatB (y :: r))[(i+1)*3+j]?=(flatB r)[i*3+j]?:=fun j=>by
   have e1:(i+1)*3+j=3+(i*3+j):=by omega
   rw [e1]
   show ([_,_,_]++flatB r)[3+(i*3+j)]?=_
   rw [List.getElem?_append_right (by simp)]
   congr 1
   simp
  refine ⟨?_,?_,?_⟩
  ·have:=e 0;simp only [Nat.add_zero] at this;rw [this];exact ih.1
  ·rw [e 1];exact ih.2.1
  ·rw [e 2];exact ih.2.2
def OwnD (q:Nat) (vb vt vp ve:Value) (k:Nat):Prop:=k=q∨vb.ownBlock=some k∨vt.ownBlock=some k∨vp.ownBlock=some k∨ve.ownBlock=some k
structure DC (w:World) (L:Nat→Prop) (q:Nat) (vb vt vp ve:Value) (ps:List (Value × Pt)) (I:Im):Prop where
 cells:w.heap[q]?=some (.cells #[.int .i64 I.applied,vb,vt,vp,ve] 32 (0,0))
 brs:w.ownsRow 0 72 3 vb I.brs.length (flatB I.brs)
 tops:w.ownsRow 0 80 3 vt I.tops.length (flatT I.tops)
 parts:w.ownsRow 0 54 9 vp ps.length (flatP ps)
 eps:w.ownsRow 0 3 1 ve I.eps.length (intsV I.eps)
 each:∀ x∈ps,PartM w x.1 x.2∧InP L x.1 x.2
 abs:I.parts=ps.map (·.2)
 lists:∀ k,L k→k<w.heap.size∧¬ OwnD q vb vt vp ve k
 ok:ImOk I
section
variable {w:World} {L:Nat→Prop} {q:Nat} {vb vt vp ve:Value} {ps:List (Value × Pt)} {I:Im}
theorem DC.lt (h:DC w L q vb vt vp ve ps I) {k:Nat} (hk:OwnD q vb vt vp ve k):k<w.heap.size:=by
 rcases hk with rfl | hk | hk | hk | hk
 ·exact (Array.getElem?_eq_some_iff.1 h.cells).1
 ·exact row_lt h.brs hk
 ·exact row_lt h.tops hk
 ·exact row_lt h.parts hk
 ·exact row_lt h.eps hk
theorem DC.kept (h:DC w L q vb vt vp ve ps I) {w1:World} (ho:∀ k,OwnD q vb vt vp ve k→w1.heap[k]?=w.heap[k]?) (hl:∀ k,L k→w1.heap[k]?=w.heap[k]?) (hs:w.heap.size≤w1.heap.size):DC w1 L q vb vt vp ve ps I:=by
 refine ⟨(ho q (.inl rfl)).trans h.cells,row_kept h.brs (fun k hk=>ho k (.inr (.inl hk))),row_kept h.tops (fun k hk=>ho k (.inr (.inr (.inl hk)))),row_kept h.parts (fun k hk=>ho k (.inr (.inr (.inr (.inl hk))))),row_kept h.eps (fun k hk=>ho k (.inr (.inr (.inr (.inr hk))))),fun x hx=>?_,h.abs,fun k hk=>⟨Nat.lt_of_lt_of_le (h.lists k hk).1 hs,(h.lists k hk).2⟩,h.ok⟩
 obtain ⟨h1,h2⟩:=h.each x hx
 exact ⟨h1.kept h2 hl hs,h2⟩
theorem DC.under (h:DC w L q vb vt vp ve ps I) {w1:World} (hb:Below w.heap.size w w1):DC w1 L q vb vt vp ve ps I :=
 h.kept (fun k hk=>hb.block k (h.lt hk)) (fun k hk=>hb.block k (h.lists k hk).1) hb.size
theorem DC.c0 (h:DC w L q vb vt vp ve ps I):w.cell? ⟨q,0,none⟩=some (.int .i64 I.applied):=cell_blk h.cells 0 _ rfl
theorem DC.c1 (h:DC w L q vb vt vp ve ps I):w.cell? ⟨q,1,none⟩=some vb:=cell_blk h.cells 1 _ rfl
theorem DC.c2 (h:DC w L q vb vt vp ve ps I):w.cell? ⟨q,2,none⟩=some vt:=cell_blk h.cells 2 _ rfl
theorem DC.c3 (h:DC w L q vb vt vp ve ps I):w.cell? ⟨q,3,none⟩=some vp:=cell_blk h.cells 3 _ rfl
theorem DC.c4 (h:DC w L q vb vt vp ve ps I):w.cell? ⟨q,4,none⟩=some ve:=cell_blk h.cells 4 _ rfl
theorem DC.fz (h:DC w L q vb vt vp ve ps I) (j:Nat):w.frozen? ⟨q,j,none⟩=false:=frz_blk h.cells j
theorem DC.plen (h:DC w L q vb vt vp ve ps I):I.parts.length=ps.length:=by rw [h.abs,List.length_map]
theorem DC.br {g n c:Nat} (h:DC w L q (.slice (some ⟨g,0,none⟩) n c) vt vp ve ps I) (k:Nat) (x:Int × Br) (hx:I.brs[k]?=some x):w.cell? ⟨g,k*3,none⟩=some (.int .i64 x.1)∧w.cell? ⟨g,k*3+1,none⟩=some (.int .i64 x.2.life)∧w.cell? ⟨g,k*3+2,none⟩=some (.bool x.2.up):=by
 obtain ⟨h1,h2,h3⟩:=flatB_get I.brs k x hx
 have c:=fun j u hu=>World.ownsRow.cells h.brs (g:=g) rfl j u hu
 have a:∀ j,(⟨g,0,none⟩:Addr).add j=⟨g,j,none⟩:=fun j=>by rw [add_at,Nat.zero_add]
 refine ⟨?_,?_,?_⟩
 ·rw [← a];exact c _ _ h1
 ·rw [← a];exact c _ _ h2
 ·rw [← a];exact c _ _ h3
end
def DImg (w:World) (Z:Nat→Prop) (q:Nat) (I:Im):Prop:=∃ L vb vt vp ve ps,DC w L q vb vt vp ve ps I∧(∀ k,OwnD q vb vt vp ve k→Z k)∧(∀ k,L k→Z k)∧∀ k,Z k→k<w.heap.size
def DAfter (Z:Nat→Prop) (w w':World) (q:Nat) (I:Im):Prop:=∃ Z',DImg w' Z' q I∧(∀ k,Z' k→Z k∨w.heap.size≤k)∧Keeps Z w w'
theorem DImg.under {w w1:World} {Z q I} (h:DImg w Z q I) (hb:Below w.heap.size w w1):DImg w1 Z q I:=by
 obtain ⟨L,vb,vt,vp,ve,ps,h1,h2,h3,h4⟩:=h
 exact ⟨L,vb,vt,vp,ve,ps,h1.under hb,h2,h3,fun k hk=>Nat.lt_of_lt_of_le (h4 k hk) hb.size⟩
theorem DImg.ok {w:World} {Z q I} (h:DImg w Z q I):ImOk I:=by obtain ⟨L,vb,vt,vp,ve,ps,h1,h2,h3,h4⟩:=h;exact h1.ok
theorem DImg.lt {w:World} {Z q I} (h:DImg w Z q I):∀ k,Z k→k<w.heap.size:=by obtain ⟨L,vb,vt,vp,ve,ps,h1,h2,h3,h4⟩:=h;exact h4
end Go.Proofs.YtcffomhcmilcpaaGreat
