/- The document: a broker is put off. -/
import Derived.Test.YtcffomhcmilcpaaGreatC25
import Derived.Test.YtcffomhcmilcpaaGreatC28
import Derived.Test.YtcffomhcmilcpaaGreatC7
import Derived.Test.YtcffomhcmilcpaaGreatC17
import Derived.Test.YtcffomhcmilcpaaGreatC27
set_option maxRecDepth 100000
set_option maxHeartbeats 20000000
set_option linter.unusedVariables false
set_option linter.unusedSimpArgs false
namespace Go.Proofs.YtcffomhcmilcpaaGreat
open Go.RowKit Go.Maps
theorem TB.at_ {W V:World} {y:Nat} {n:Pt × Int} {u1 u2 u3 u4:Option Addr} {z1 z2 z3 z4:Nat} (h1:PartM V (.agg (PP n.1 u1 z1 u2 z2 u3 z3 u4 z4)) n.1) (h2:InP (fun k=>y+1≤k) (.agg (PP n.1 u1 z1 u2 z2 u3 z3 u4 z4)) n.1) (hb:Below W.heap.size W V) (hy:W.heap.size≤y) (hz:V.heap[y]?=some (.cells PZ 54)):TB W n (.pointer (some ⟨y,0,none⟩)) (.int .i64 n.2) (puts V y 0 [.int .i64 n.1.id,.int .i64 n.1.leader,.int .i64 n.1.epoch,.int .i64 n.1.ver,.slice u1 n.1.isr.length z1,.slice u2 n.1.reps.length z2,.slice u3 n.1.add.length z3,.slice u4 n.1.rem.length z4,.int .i64 n.1.min]):=by
 have HR:=puts_all [.int .i64 n.1.id,.int .i64 n.1.leader,.int .i64 n.1.epoch,.int .i64 n.1.ver,.slice u1 n.1.isr.length z1,.slice u2 n.1.reps.length z2,.slice u3 n.1.add.length z3,.slice u4 n.1.rem.length z4,.int .i64 n.1.min] V y 0
 exact ⟨_,u1,u2,u3,u4,z1,z2,z3,z4,rfl,rfl,HR.box9 hz rfl,h1.kept h2 (fun k hk=>HR.other k (by omega)) (by rw [HR.size];exact Nat.le_refl _),h2.mono (fun k hk=>by omega),HR.below hb hy,hy⟩
theorem rfencing_any {w:World} {L:Nat→Prop} {q g cb:Nat} {vt vp ve:Value} {ps:List (Value × Pt)} {I:Im} (h:DC w L q (.slice (some ⟨g,0,none⟩) I.brs.length cb) vt vp ve ps I) {i:Nat} {id:Int} {b:Br} (hx:I.brs[i]?=some (id,b)) (hgb:getB I.brs id=some b):Calls Tryz.prog 76 #[.pointer (some ⟨q,0,none⟩),.int .i64 (i:Int)] w fun e w'=>e=.returned (.tuple #[])∧DOut L w w' q (.slice (some ⟨g,0,none⟩) I.brs.length cb) vt vp ve (putOffI I id):=by
 have hl7:=keys_few h.ok.keys (fun p hp=>(h.ok.brs p hp).1)
 have hil:i<I.brs.length:=(List.getElem?_eq_some_iff.1 hx).1
 have hil':(i:Int)<(I.brs.length:Int):=by omega
 have hid7:=(h.ok.brs _ (List.mem_of_getElem? hx)).1
 simp only at hid7
 obtain ⟨hid1,hid2⟩:=hid7
 obtain ⟨b0,b1,b2⟩:=h.br i _ hx
 have hgq:q≠g:=fun e=>h.ne_q.1 (by rw [e];rfl)
 have hgq1:¬ q=g:=hgq
 have hgq2:¬ g=q:=fun e=>hgq e.symm
 have d1:=h.c1
 obtain ⟨cur,hcur⟩:=row_blk h.brs (k:=g) rfl
 have hfz:=frz_blk hcur (i*3+2)
 have hI1:=h.up hx false
 have HKW:Hid (Keeps (OwnD q (.slice (some ⟨g,0,none⟩) I.brs.length cb) vt vp ve) w (w.setCell ⟨g,i*3+2,none⟩ (.bool false))):=Keeps.set w (a:=⟨g,i*3+2,none⟩) (.inr (.inl rfl)) _
 have HSZ:Hid ((w.setCell ⟨g,i*3+2,none⟩ (.bool false)).heap.size=w.heap.size):=by show _=_;simp
 obtain ⟨bs,hbs⟩:∃ bs,bs=putB I.brs id ⟨b.life,false⟩:=⟨_,rfl⟩
 have HPO:Hid (putOffI I id={ I with brs:=bs,parts:=I.parts.map (stepP fun p=>fenceP p id (upL bs)) }):=by show _=_;unfold putOffI valB;rw [hgb,hbs];rfl
 rw [← hbs] at hI1
 clear hbs hgb hcur hx
 rw [HPO.out]
 clear HPO
 simp only at b0 b1 b2
 obtain ⟨lf,bu⟩:=b
 simp only at b0 b1 b2
 have HI1:=hid hI1
 obtain ⟨oa,cap,hvp,hcap,hcm,hnn,hat⟩:=row_shape hI1.parts
 have hpl:=hI1.plen
 simp only at hpl
 rw [← hpl] at hvp hcap hat
 subst hvp
 have e3:=hI1.c3
 obtain ⟨J,hJ⟩:∃ J,J=({ I with brs:=bs }:Im):=⟨_,rfl⟩
 have HJ:Hid (J.parts=I.parts∧J.brs=bs∧{ J with parts:=J.parts.map (stepP fun p=>fenceP p id (upL bs)) }=({ I with brs:=bs,parts:=I.parts.map (stepP fun p=>fenceP p id (upL bs)) }:Im)):=by subst hJ;exact ⟨rfl,rfl,rfl⟩
 rw [← HJ.out.2.2]
 rw [← hJ] at HI1
 rw [← HJ.out.1] at e3 hat hcap HI1 HKW ⊢
 have hf16:J.parts.length≤16:=HI1.out.ok.few
 have HJB:=hid HJ.out.2.1
 clear hI1 hJ HJ hpl hcap hcm hnn h
 go_enter Tryz.func76,Tryz.ntmps76
 go_wp2_with fail
 generalize w.setCell ⟨g,i*3+2,none⟩ (.bool false)=W1 at *
 clear d1 b0 b1 b2 hfz
 go_loopg [5] J.parts.length (fun kx s wr=>∃ k:Nat,k≤J.parts.length∧J.parts.length - k≤kx∧s=.int .i64 (k:Int)∧Hid (LoopD W1 wr L q (.slice (some ⟨g,0,none⟩) I.brs.length cb) vt (.slice oa J.parts.length cap) ve J (fun p=>fenceP p id (upL bs)) k))
 case atStart=>exact ⟨0,Nat.zero_le _,by omega,rfl,LoopD.start HI1.out⟩
 case round =>
  obtain ⟨k,hk,hkx,rfl,HK⟩:=hrel
  have c3:=HK.out.c3
  by_cases hlt:k<J.parts.length
  ·obtain ⟨gp,rfl⟩:=hat (by omega)
   have hlt':(k:Int)<(J.parts.length:Int):=by omega
   obtain ⟨x,hx,hxc⟩:=HK.out.at_ hlt
   have HPM:=hid hx
   obtain ⟨a1,c1,a2,c2,a3,c3x,a4,c4,rfl,_⟩:=hx.open
   have hrp:RightP J.parts[k]∧J.parts[k].id=(k:Int)+1:=HI1.out.ok.parts k _ (List.getElem?_eq_getElem hlt)
   have HNO:Hid (∀ W,Below wr.heap.size wr W→(fenceP J.parts[k] id (upL bs)).2≠0→LoopD W1 W L q (.slice (some ⟨g,0,none⟩) I.brs.length cb) vt (.slice (some ⟨gp,0,none⟩) J.parts.length cap) ve J (fun p=>fenceP p id (upL bs)) (k+1)):=fun W hb h0=>HK.out.no hlt hb h0
   have HYE:Hid (∀ W N v,Below wr.heap.size wr W→(fenceP J.parts[k] id (upL bs)).2=0→PartM W v (fenceP J.parts[k] id (upL bs)).1→InP (fun j=>wr.heap.size≤j) v (fenceP J.parts[k] id (upL bs)).1→PutsR W N gp (k*9) (pc v)→LoopD W1 N L q (.slice (some ⟨g,0,none⟩) I.brs.length cb) vt (.slice (some ⟨gp,0,none⟩) J.parts.length cap) ve J (fun p=>fenceP p id (upL bs)) (k+1)):=fun W N v hb h0 hv hX hN=>by
    obtain ⟨j1,j2⟩:=fence_ok hrp.1 h0
    exact HK.out.yes hlt hb h0 hv hX j1 (by rw [← hrp.2];exact j2) hN
   have HUP:Hid (∀ V,Below wr.heap.size wr V→Calls Tryz.prog 38 #[.pointer (some ⟨q,0,none⟩)] V fun e w'=>∃ ua uc,e=.returned (.slice ua (upL bs).length uc)∧IL w' (.slice ua (upL bs).length uc) (upL bs)∧Below V.heap.size V w'):=fun V hV=>by
    have:=(HK.out.under hV).up
    rw [HJB.out] at this
    refine this.mono ?_
    rintro e w' ⟨v',rfl,h1,h2,h3⟩
    obtain ⟨ua,uc,rfl,_⟩:=h1.shape
    exact ⟨ua,uc,rfl,h1,h3⟩
   obtain ⟨cur2,hcur2⟩:∃ cur,wr.heap[gp]?=some (.cells cur 54):=by
    obtain ⟨⟨L',ps',i1,i2⟩,i3⟩:=HK.out
    exact row_blk i1.parts (k:=gp) rfl
   have HGQ:Hid (¬ q=gp):=by
    obtain ⟨⟨L',ps',i1,i2⟩,i3⟩:=HK.out
    exact fun e=>i1.ne_q.2.2.1 (by rw [e];rfl)
   have HQL:Hid (q<wr.heap.size∧gp<wr.heap.size):=by
    obtain ⟨⟨L',ps',i1,i2⟩,i3⟩:=HK.out
    exact ⟨i1.lt (.inl rfl),i1.lt (.inr (.inr (.inr (.inl rfl))))⟩
   have HFR:Hid (∀ V,Below wr.heap.size wr V→∀ j,V.frozen? ⟨gp,j,none⟩=false):=fun V hV j=>frz_blk ((hV.block gp HQL.out.2).trans hcur2) j
   clear hrp HK hcur2
   generalize J.parts[k]=P at *
   have r0:=hxc 0 (by decide) _ rfl
   have r1:=hxc 1 (by decide) _ rfl
   have r2:=hxc 2 (by decide) _ rfl
   have r3:=hxc 3 (by decide) _ rfl
   have r4:=hxc 4 (by decide) _ rfl
   have r5:=hxc 5 (by decide) _ rfl
   have r6:=hxc 6 (by decide) _ rfl
   have r7:=hxc 7 (by decide) _ rfl
   have r8:=hxc 8 (by decide) _ rfl
   rw [Nat.add_zero] at r0
   clear hxc hx
   have HM:Hid (∀ V,Below wr.heap.size wr V→V.cell? ⟨q,3,none⟩=some (.slice (some ⟨gp,0,none⟩) J.parts.length cap)∧V.cell? ⟨gp,k*9,none⟩=some (.int .i64 P.id)∧V.cell? ⟨gp,k*9+1,none⟩=some (.int .i64 P.leader)∧V.cell? ⟨gp,k*9+2,none⟩=some (.int .i64 P.epoch)∧V.cell? ⟨gp,k*9+3,none⟩=some (.int .i64 P.ver)∧V.cell? ⟨gp,k*9+4,none⟩=some (.slice a1 P.isr.length c1)∧V.cell? ⟨gp,k*9+5,none⟩=some (.slice a2 P.reps.length c2)∧V.cell? ⟨gp,k*9+6,none⟩=some (.slice a3 P.add.length c3x)∧V.cell? ⟨gp,k*9+7,none⟩=some (.slice a4 P.rem.length c4)∧V.cell? ⟨gp,k*9+8,none⟩=some (.int .i64 P.min)):=fun V hV=>⟨kept_cell hV c3,kept_cell hV r0,kept_cell hV r1,kept_cell hV r2,kept_cell hV r3,kept_cell hV r4,kept_cell hV r5,kept_cell hV r6,kept_cell hV r7,kept_cell hV r8⟩
   obtain ⟨n,hn⟩:∃ n,n=fenceP P id (upL bs):=⟨_,rfl⟩
   have HDE:Hid (∀ V uv,Below wr.heap.size wr V→IL V uv (upL bs)→Calls Tryz.prog 124 #[.agg (PP P a1 c1 a2 c2 a3 c3x a4 c4),.int .i64 id,uv] V fun e w'=>Res (fun b=>V.heap.size≤b) V n e w'):=fun V uv hV hu=>by rw [hn];exact rfence_any (HPM.out.under hV) id (by unfold I64;omega) hu
   have HCO:Hid (I64 n.2):=by rw [hn];exact fence_code _ _ _
   rw [← hn] at HNO HYE
   obtain ⟨hql,hgl⟩:=HQL.out
   have nq:¬ q=wr.heap.size:=by omega
   have ng:¬ gp=wr.heap.size:=by omega
   have nq2:¬ wr.heap.size=q:=by omega
   have ng2:¬ wr.heap.size=gp:=by omega
   clear hn HPM
   go_wp2_with fail
   go_cut [6,7] from 23 to 46 (fun s6 s7 V=>TB wr n s6 s7 V)
   case first =>
    go_region_held3 (fun V=>V.cell? ⟨q,3,none⟩=some (.slice (some ⟨gp,0,none⟩) J.parts.length cap)∧V.cell? ⟨gp,k*9,none⟩=some (.int .i64 P.id)∧V.cell? ⟨gp,k*9+1,none⟩=some (.int .i64 P.leader)∧V.cell? ⟨gp,k*9+2,none⟩=some (.int .i64 P.epoch)∧V.cell? ⟨gp,k*9+3,none⟩=some (.int .i64 P.ver)∧V.cell? ⟨gp,k*9+4,none⟩=some (.slice a1 P.isr.length c1)∧V.cell? ⟨gp,k*9+5,none⟩=some (.slice a2 P.reps.length c2)∧V.cell? ⟨gp,k*9+6,none⟩=some (.slice a3 P.add.length c3x)∧V.cell? ⟨gp,k*9+7,none⟩=some (.slice a4 P.rem.length c4)∧V.cell? ⟨gp,k*9+8,none⟩=some (.int .i64 P.min)) (go_keep) (first | (go_at_call 38;refine (HUP.out (wr.alloc (.cells PZ 54)).drew ((Below.refl _ wr).alloc (Nat.le_refl _) _).drew).mono ?_;rintro e V1 ⟨ua,uc,rfl,hu1,hb1⟩;have HU1:=hid hu1;have HZA:Hid (V1.heap[wr.heap.size]?=some (.cells PZ 54)):=hid ((hb1.block wr.heap.size (by simp)).trans (heap_alloc_new wr _));have HB1:Hid (Below wr.heap.size wr V1):=hid (((Below.refl _ wr).alloc (Nat.le_refl _) _).drew.trans (hb1.mono (by simp)));have hs1:wr.heap.size+1≤V1.heap.size:=(by have e9:=hb1.size;have e8:(wr.alloc (.cells PZ 54)).drew.heap.size=wr.heap.size+1:=(by simp);omega);clear c3 r0 r1 r2 r3 r4 r5 r6 r7 r8;obtain ⟨c3,r0,r1,r2,r3,r4,r5,r6,r7,r8⟩:=HM.out V1 HB1.out;clear hu1 hb1) | (go_at_call 38;refine (HUP.out wr.drew (Below.refl _ wr).drew).mono ?_;rintro e V1 ⟨ua,uc,rfl,hu1,hb1⟩;have HU1:=hid hu1;have HB1:Hid (Below wr.heap.size wr V1):=hid ((Below.refl _ wr).drew.trans hb1);have hs1:wr.heap.size≤V1.heap.size:=HB1.out.size;have nq3:¬ q=V1.heap.size:=(by omega);have ng3:¬ gp=V1.heap.size:=(by omega);have nq4:¬ V1.heap.size=q:=(by omega);have ng4:¬ V1.heap.size=gp:=(by omega);clear c3 r0 r1 r2 r3 r4 r5 r6 r7 r8;obtain ⟨c3,r0,r1,r2,r3,r4,r5,r6,r7,r8⟩:=HM.out V1 HB1.out;clear hu1 hb1) | (go_at_call 124;refine (HDE.out V1 _ HB1.out HU1.out).mono ?_;rintro e V2 ⟨nv,rfl,hn1,hn2,hb2⟩;have zb:=(hb2.block wr.heap.size (by omega)).trans HZA.out;have HB2:Hid (Below wr.heap.size wr V2):=hid (HB1.out.trans (hb2.mono HB1.out.size));have HN1:=hid hn1;obtain ⟨u1,z1,u2,z2,u3,z3,u4,z4,rfl,_⟩:=hn1.open;have HTB:=hid (TB.at_ (W:=wr) HN1.out (hn2.mono (fun k hk=>Nat.le_trans hs1 hk)) HB2.out (Nat.le_refl _) zb);have e0:=cell_blk zb 0 _ rfl;have e1:=cell_blk zb 1 _ rfl;have e2:=cell_blk zb 2 _ rfl;have e3':=cell_blk zb 3 _ rfl;have e4:=cell_blk zb 4 _ rfl;have e5:=cell_blk zb 5 _ rfl;have e6:=cell_blk zb 6 _ rfl;have e7:=cell_blk zb 7 _ rfl;have e8:=cell_blk zb 8 _ rfl;have ef:=frz_blk zb;clear c3 r0 r1 r2 r3 r4 r5 r6 r7 r8;obtain ⟨c3,r0,r1,r2,r3,r4,r5,r6,r7,r8⟩:=HM.out V2 HB2.out;clear hn2 hb2 zb) | (go_at_call 124;refine (HDE.out (V1.alloc (.cells PZ 54)) _ (HB1.out.alloc HB1.out.size _) (HU1.out.under ((Below.refl _ V1).alloc (Nat.le_refl _) _))).mono ?_;rintro e V2 ⟨nv,rfl,hn1,hn2,hb2⟩;have zb:=(hb2.block V1.heap.size (by simp)).trans (heap_alloc_new V1 _);have HB2:Hid (Below wr.heap.size wr V2):=hid ((HB1.out.alloc HB1.out.size _).trans (hb2.mono (by simp;omega)));have HN1:=hid hn1;obtain ⟨u1,z1,u2,z2,u3,z3,u4,z4,rfl,_⟩:=hn1.open;have HTB:=hid (TB.at_ (W:=wr) HN1.out (hn2.mono (fun k hk=>(by have e9:(V1.alloc (.cells PZ 54)).heap.size=V1.heap.size+1:=(by simp);omega))) HB2.out hs1 zb);have e0:=cell_blk zb 0 _ rfl;have e1:=cell_blk zb 1 _ rfl;have e2:=cell_blk zb 2 _ rfl;have e3':=cell_blk zb 3 _ rfl;have e4:=cell_blk zb 4 _ rfl;have e5:=cell_blk zb 5 _ rfl;have e6:=cell_blk zb 6 _ rfl;have e7:=cell_blk zb 7 _ rfl;have e8:=cell_blk zb 8 _ rfl;have ef:=frz_blk zb;clear c3 r0 r1 r2 r3 r4 r5 r6 r7 r8;obtain ⟨c3,r0,r1,r2,r3,r4,r5,r6,r7,r8⟩:=HM.out V2 HB2.out;clear hn2 hb2 zb) | (go_at_call 124;refine (HDE.out V1 _ HB1.out HU1.out).mono ?_;rintro e V2 ⟨nv,rfl,hn1,hn2,hb2⟩;have HB2:Hid (Below wr.heap.size wr V2):=hid (HB1.out.trans (hb2.mono HB1.out.size));have HN1:=hid hn1;obtain ⟨u1,z1,u2,z2,u3,z3,u4,z4,rfl,_⟩:=hn1.open;have HTB:=hid (TB.made (W:=wr) HN1.out (hn2.mono (fun k hk=>Nat.le_trans hs1 hk)) HB2.out);clear c3 r0 r1 r2 r3 r4 r5 r6 r7 r8;obtain ⟨c3,r0,r1,r2,r3,r4,r5,r6,r7,r8⟩:=HM.out V2 HB2.out;clear hn2 hb2) | fail)
    all_goals
     go_wp2_with fail
     go_meet
     case rel=>exact HTB.out
   case rest =>
    obtain ⟨y,u1,u2,u3,u4,z1,z2,z3,z4,rfl,rfl,hy,hpm2,hin2,hbl2,hyw⟩:=hcut
    have HPM2:=hid hpm2
    have HIN2:=hid hin2
    have HBL2:=hid hbl2
    obtain ⟨m0,m1,m2,m3,m4,m5,m6,m7,m8⟩:=cells9 hy
    clear c3 r0 r1 r2 r3 r4 r5 r6 r7 r8
    obtain ⟨c3,r0,r1,r2,r3,r4,r5,r6,r7,r8⟩:=HM.out wc hbl2
    have f0:=HFR.out wc hbl2 (k*9)
    have f1:=HFR.out wc hbl2 (k*9+1)
    have f2:=HFR.out wc hbl2 (k*9+2)
    have f3:=HFR.out wc hbl2 (k*9+3)
    have f4:=HFR.out wc hbl2 (k*9+4)
    have f5:=HFR.out wc hbl2 (k*9+5)
    have f6:=HFR.out wc hbl2 (k*9+6)
    have f7:=HFR.out wc hbl2 (k*9+7)
    have f8:=HFR.out wc hbl2 (k*9+8)
    have hsw:=hbl2.size
    have hgq3:¬ q=gp:=HGQ.out
    have hgq4:¬ gp=q:=fun e=>HGQ.out e.symm
    have hne1:¬ gp=y:=by omega
    have hne2:¬ y=gp:=by omega
    clear hy hpm2 hin2 hbl2
    generalize wc=W3 at *
    by_cases h0:n.2=0
    ·have HEND:Hid (LoopD W1 (puts W3 gp (k*9) [.int .i64 n.1.id,.int .i64 n.1.leader,.int .i64 n.1.epoch,.int .i64 n.1.ver,.slice u1 n.1.isr.length z1,.slice u2 n.1.reps.length z2,.slice u3 n.1.add.length z3,.slice u4 n.1.rem.length z4,.int .i64 n.1.min]).drew L q (.slice (some ⟨g,0,none⟩) I.brs.length cb) vt (.slice (some ⟨gp,0,none⟩) J.parts.length cap) ve J (fun p=>fenceP p id (upL bs)) (k+1)):=(HYE.out W3 _ _ HBL2.out h0 HPM2.out HIN2.out (puts_all [.int .i64 n.1.id,.int .i64 n.1.leader,.int .i64 n.1.epoch,.int .i64 n.1.ver,.slice u1 n.1.isr.length z1,.slice u2 n.1.reps.length z2,.slice u3 n.1.add.length z3,.slice u4 n.1.rem.length z4,.int .i64 n.1.min] W3 gp (k*9))).under (Below.refl _ _).drew
     rw [h0]
     go_wp2_with fail
     go_region_with (fail)
     all_goals
      go_wp2_with fail
      go_roundg (J.parts.length - (k+1))
      case measure=>omega
      case rel=>exact ⟨k+1,by omega,Nat.le_refl _,by go_num,HEND.out⟩
    ·have HEND:Hid (LoopD W1 W3 L q (.slice (some ⟨g,0,none⟩) I.brs.length cb) vt (.slice (some ⟨gp,0,none⟩) J.parts.length cap) ve J (fun p=>fenceP p id (upL bs)) (k+1)):=HNO.out W3 HBL2.out h0
     have h0':(n.2 == 0)=false:=by simp [h0]
     clear m0 m1 m2 m3 m4 m5 m6 m7 m8 HYE HNO HPM2 HIN2 f0 f1 f2 f3 f4 f5 f6 f7 f8
     generalize n.2=n2 at *
     go_wp2_with fail
     go_roundg (J.parts.length - (k+1))
     case measure=>omega
     case rel=>exact ⟨k+1,by omega,Nat.le_refl _,by go_num,HEND.out⟩
  ·have hlt':¬ (k:Int)<(J.parts.length:Int):=by omega
   have HKE:=HK
   clear HK
   go_wp2_with fail
   go_end0
   obtain ⟨⟨L',ps',i1,i2⟩,i3⟩:=HKE.out
   rw [stepK_all _ _ _ (by omega)] at i1
   have hsz:=HSZ.out
   exact ⟨rfl,L',ps',i1,fun j hj=>(i2 j hj).elim .inl (fun h=>.inr (by omega)),HKW.out.trans i3 (fun x hx=>.inl hx)⟩
theorem DOut.after {w w':World} {L Z:Nat→Prop} {q:Nat} {vb vt vp ve:Value} {J:Im} (h:DOut L w w' q vb vt vp ve J) (h4:∀ k,OwnD q vb vt vp ve k→Z k) (h5:∀ k,L k→Z k):DAfter Z w w' q J:=by
 obtain ⟨L',ps',h1,h2,h3⟩:=h
 exact h1.after (fun k hk=>.inl (h4 k hk)) (fun k hk=>(h2 k hk).imp (h5 k) (fun e=>e)) ⟨h3.os,h3.tape,h3.output,h3.size,fun k hk hS=>h3.block k hk (fun ho=>hS (h4 k ho))⟩
theorem rfenceI_any {w:World} {Z:Nat→Prop} {q:Nat} {I:Im} (hi:DImg w Z q I) (r:Rc) (ha:I64 r.a) (hb:I64 r.b) (up:Bool):Calls Tryz.prog 34 #[.pointer (some ⟨q,0,none⟩),.int .i64 r.a,.int .i64 r.b,.bool up] w fun e w'=>e=.returned (.int .i64 (refusedI I r up))∧DAfter Z w w' q (if up then unfenceI I r else fenceI I r).1:=by
 have HS:=hid (hi.after (Below.refl _ w))
 obtain ⟨L,vb,vt,vp,ve,ps,h,hz4,hz5,hz6⟩:=hi
 obtain ⟨R,hR⟩:∃ R,refusedI I r up=R:=⟨_,rfl⟩
 obtain ⟨T,hT⟩:∃ T,(if up then unfenceI I r else fenceI I r).1=T:=⟨_,rfl⟩
 have HF:Hid (R=if !upB r.a 7 then 1 else if (getB I.brs r.a).isNone then 8 else if r.b≠(valB I.brs r.a).life then 13 else if (valB I.brs r.a).up=up then 19 else 0):=by show _=_;rw [← hR];rfl
 have HT:Hid (R≠0→T=I):=fun h0=>by
  rw [← hR] at h0
  rw [← hT]
  cases up with
  | true=>show (unfenceI I r).1=I;unfold unfenceI;rw [if_pos h0]
  | false=>show (fenceI I r).1=I;unfold fenceI;rw [if_pos h0]
 have HT0:Hid (R=0→T=if up then ({ I with brs:=putB I.brs r.a ⟨r.b,true⟩,parts:=I.parts.map (stepP fun p=>backP p r.a) }:Im) else putOffI I r.a):=fun h0=>by
  rw [← hR] at h0
  rw [← hT]
  cases up with
  | true=>show (unfenceI I r).1=_;unfold unfenceI;rw [if_neg (by rw [h0];simp)];rfl
  | false=>show (fenceI I r).1=_;unfold fenceI;rw [if_neg (by rw [h0];simp)];rfl
 rw [hR,hT]
 clear hR hT
 have H75:=hid (rbroker_any h r.a ha)
 generalize r.a=a at *
 generalize r.b=rb at *
 clear r
 unfold I64 at ha hb
 obtain ⟨ob,cb,rfl,_,_,_,hatb⟩:=row_shape h.brs
 have hl7:=keys_few h.ok.keys (fun p hp=>(h.ok.brs p hp).1)
 by_cases k1:a<1
 ·have HR:Hid (R=1):=by show _=_;rw [HF.out];rw [if_pos (by simp only [upB,Bool.not_eq_true',Bool.and_eq_false_iff,decide_eq_false_iff_not];omega)]
  have HJ:Hid (T=I):=HT.out (by rw [HR.out];decide)
  rw [HR.out,HJ.out]
  clear HF HT HR HJ h
  go_enter Tryz.func34,Tryz.ntmps34
  go_wp2_with fail
  go_ret
  exact ⟨rfl,HS.out⟩
 by_cases k2:(7:Int)<a
 ·have HR:Hid (R=1):=by show _=_;rw [HF.out];rw [if_pos (by simp only [upB,Bool.not_eq_true',Bool.and_eq_false_iff,decide_eq_false_iff_not];omega)]
  have HJ:Hid (T=I):=HT.out (by rw [HR.out];decide)
  rw [HR.out,HJ.out]
  clear HF HT HR HJ h
  go_enter Tryz.func34,Tryz.ntmps34
  go_wp2_with fail
  go_ret
  exact ⟨rfl,HS.out⟩
 have hup:(!upB a 7)=false:=by simp only [upB,Bool.not_eq_false',Bool.and_eq_true,decide_eq_true_eq];omega
 rw [hup,if_neg (by simp)] at HF
 cases hgb:getB I.brs a with
 | none =>
  rw [posB_none hgb] at H75
  have HR:Hid (R=8):=by show _=_;rw [HF.out];rw [hgb];rfl
  have HJ:Hid (T=I):=HT.out (by rw [HR.out];decide)
  rw [HR.out,HJ.out]
  clear HF HT HR HJ h
  go_enter Tryz.func34,Tryz.ntmps34
  go_wp2_with fail
  refine H75.out.mono ?_
  rintro e w1 ⟨rfl,rfl⟩
  go_wp2_with fail
  go_ret
  exact ⟨rfl,HS.out⟩
 | some b =>
  obtain ⟨i,hpos,hx⟩:=posB_some hgb
  rw [hpos] at H75
  have hv:valB I.brs a=b:=by unfold valB;rw [hgb];rfl
  rw [hgb,hv,if_neg (by simp)] at HF
  have hil:i<I.brs.length:=(List.getElem?_eq_some_iff.1 hx).1
  have hil':(i:Int)<(I.brs.length:Int):=by omega
  have hi0:¬ (i:Int)<0:=by omega
  obtain ⟨g,rfl⟩:=hatb (by omega)
  obtain ⟨b0,b1,b2⟩:=h.br i _ hx
  have d1:=h.c1
  have hlf:=(h.ok.brs _ (List.mem_of_getElem? hx)).2
  simp only at b0 b1 b2 hlf
  by_cases k3:rb=b.life
  ·by_cases k4:b.up=up
   ·have HR:Hid (R=19):=by show _=_;rw [HF.out,if_neg (by simp [k3]),if_pos k4]
    have HJ:Hid (T=I):=HT.out (by rw [HR.out];decide)
    rw [HR.out,HJ.out]
    clear HF HT HR HJ h HT0 hgb hx hv hpos
    obtain ⟨lf,bu⟩:=b
    simp only at k3 k4 b0 b1 b2
    subst k3 k4
    cases bu <;>
    ·go_enter Tryz.func34,Tryz.ntmps34
     go_wp2_with fail
     refine H75.out.mono ?_
     rintro e w1 ⟨rfl,rfl⟩
     go_wp2_with fail
     go_ret
     exact ⟨rfl,HS.out⟩
   ·have HR:Hid (R=0):=by show _=_;rw [HF.out,if_neg (by simp [k3]),if_neg k4]
    have HTT:=hid (HT0.out HR.out)
    rw [HR.out]
    clear HF HT HR HT0 hv hpos HS
    cases up with
    | false =>
     rw [if_neg (by simp)] at HTT
     rw [HTT.out]
     have hbu:b.up=true:=by cases hh:b.up with | true=>rfl | false=>exact absurd hh k4
     have H76:=hid (rfencing_any h hx hgb)
     rw [hbu] at b2
     have HZ:=hid (And.intro hz4 hz5)
     rw [← k3] at b1
     clear h hx hgb HTT hz4 hz5 hz6 k4 hbu k3
     go_enter Tryz.func34,Tryz.ntmps34
     go_wp2_with fail
     refine H75.out.mono ?_
     rintro e w1 ⟨rfl,rfl⟩
     go_wp2_with fail
     refine H76.out.mono ?_
     rintro e w1 ⟨rfl,hD⟩
     have HD:=hid (hD.after HZ.out.1 HZ.out.2)
     clear hD H76 d1 b0 b1 b2
     go_wp2_with fail
     go_ret
     exact ⟨rfl,HD.out⟩
    | true =>
     rw [if_pos rfl] at HTT
     have hbu:b.up=false:=by cases hh:b.up with | false=>rfl | true=>exact absurd hh k4
     have HZ:=hid (And.intro hz4 hz5)
     have hI1:=h.up hx true
     rw [← k3] at hI1
     have hgq:q≠g:=fun e=>h.ne_q.1 (by rw [e];rfl)
     have hgq1:¬ q=g:=hgq
     have hgq2:¬ g=q:=fun e=>hgq e.symm
     obtain ⟨cur,hcur⟩:=row_blk h.brs (k:=g) rfl
     have hfz:=frz_blk hcur (i*3+2)
     have HKW:Hid (Keeps (OwnD q (.slice (some ⟨g,0,none⟩) I.brs.length cb) vt vp ve) w (w.setCell ⟨g,i*3+2,none⟩ (.bool true))):=Keeps.set w (a:=⟨g,i*3+2,none⟩) (.inr (.inl rfl)) _
     have HSZ:Hid ((w.setCell ⟨g,i*3+2,none⟩ (.bool true)).heap.size=w.heap.size):=by show _=_;simp
     obtain ⟨oa,cap,hvp,hcap,hcm,hnn,hat⟩:=row_shape hI1.parts
     have hpl:=hI1.plen
     simp only at hpl
     rw [← hpl] at hvp hcap hat
     subst hvp
     have e3:=hI1.c3
     obtain ⟨J,hJ⟩:∃ J,J=({ I with brs:=putB I.brs a ⟨rb,true⟩ }:Im):=⟨_,rfl⟩
     have HJ:Hid (J.parts=I.parts∧{ J with parts:=J.parts.map (stepP fun p=>backP p a) }=T):=by subst hJ;exact ⟨rfl,HTT.out.symm⟩
     have HI1:=hid hI1
     rw [← hJ] at HI1
     rw [← HJ.out.1] at e3 hat hcap HI1 HKW HZ
     rw [← HJ.out.2]
     have hf16:J.parts.length≤16:=HI1.out.ok.few
     rw [hbu] at b2
     rw [← k3] at b1
     clear hI1 hJ HJ hpl hcap hcm hnn h hx hgb HTT hcur hz4 hz5 hz6 k4 hbu k3
     go_enter Tryz.func34,Tryz.ntmps34
     go_wp2_with fail
     refine H75.out.mono ?_
     rintro e w1 ⟨rfl,rfl⟩
     go_wp2_with fail
     generalize w.setCell ⟨g,i*3+2,none⟩ (.bool true)=W1 at *
     clear d1 b0 b1 b2 hfz H75
     go_loopg [10] J.parts.length (fun kx s wr=>∃ k:Nat,k≤J.parts.length∧J.parts.length - k≤kx∧s=.int .i64 (k:Int)∧Hid (LoopD W1 wr L q (.slice (some ⟨g,0,none⟩) I.brs.length cb) vt (.slice oa J.parts.length cap) ve J (fun p=>backP p a) k))
     case atStart=>exact ⟨0,Nat.zero_le _,by omega,rfl,LoopD.start HI1.out⟩
     case round =>
      obtain ⟨k,hk,hkx,rfl,HK⟩:=hrel
      have c3:=HK.out.c3
      by_cases hlt:k<J.parts.length
      ·obtain ⟨gp,rfl⟩:=hat (by omega)
       have hlt':(k:Int)<(J.parts.length:Int):=by omega
       obtain ⟨x,hx,hxc⟩:=HK.out.at_ hlt
       have HPM:=hid hx
       obtain ⟨a1,c1,a2,c2,a3,c3x,a4,c4,rfl,_⟩:=hx.open
       have hrp:RightP J.parts[k]∧J.parts[k].id=(k:Int)+1:=HI1.out.ok.parts k _ (List.getElem?_eq_getElem hlt)
       have HNO:Hid (∀ W,Below wr.heap.size wr W→(backP J.parts[k] a).2≠0→LoopD W1 W L q (.slice (some ⟨g,0,none⟩) I.brs.length cb) vt (.slice (some ⟨gp,0,none⟩) J.parts.length cap) ve J (fun p=>backP p a) (k+1)):=fun W hb h0=>HK.out.no hlt hb h0
       have HYE:Hid (∀ W N v,Below wr.heap.size wr W→(backP J.parts[k] a).2=0→PartM W v (backP J.parts[k] a).1→InP (fun j=>wr.heap.size≤j) v (backP J.parts[k] a).1→PutsR W N gp (k*9) (pc v)→LoopD W1 N L q (.slice (some ⟨g,0,none⟩) I.brs.length cb) vt (.slice (some ⟨gp,0,none⟩) J.parts.length cap) ve J (fun p=>backP p a) (k+1)):=fun W N v hb h0 hv hX hN=>by
        obtain ⟨j1,j2⟩:=back_ok hrp.1 h0
        exact HK.out.yes hlt hb h0 hv hX j1 (by rw [← hrp.2];exact j2) hN
       obtain ⟨cur2,hcur2⟩:∃ cur,wr.heap[gp]?=some (.cells cur 54):=by
        obtain ⟨⟨L',ps',i1,i2⟩,i3⟩:=HK.out
        exact row_blk i1.parts (k:=gp) rfl
       have HGQ:Hid (¬ q=gp):=by
        obtain ⟨⟨L',ps',i1,i2⟩,i3⟩:=HK.out
        exact fun e=>i1.ne_q.2.2.1 (by rw [e];rfl)
       have HQL:Hid (q<wr.heap.size∧gp<wr.heap.size):=by
        obtain ⟨⟨L',ps',i1,i2⟩,i3⟩:=HK.out
        exact ⟨i1.lt (.inl rfl),i1.lt (.inr (.inr (.inr (.inl rfl))))⟩
       have HFR:Hid (∀ V,Below wr.heap.size wr V→∀ j,V.frozen? ⟨gp,j,none⟩=false):=fun V hV j=>frz_blk ((hV.block gp HQL.out.2).trans hcur2) j
       clear hrp HK hcur2
       generalize J.parts[k]=P at *
       have r0:=hxc 0 (by decide) _ rfl
       have r1:=hxc 1 (by decide) _ rfl
       have r2:=hxc 2 (by decide) _ rfl
       have r3:=hxc 3 (by decide) _ rfl
       have r4:=hxc 4 (by decide) _ rfl
       have r5:=hxc 5 (by decide) _ rfl
       have r6:=hxc 6 (by decide) _ rfl
       have r7:=hxc 7 (by decide) _ rfl
       have r8:=hxc 8 (by decide) _ rfl
       rw [Nat.add_zero] at r0
       clear hxc hx
       obtain ⟨n,hn⟩:∃ n,n=backP P a:=⟨_,rfl⟩
       have HDE:Hid (Calls Tryz.prog 77 #[.agg (PP P a1 c1 a2 c2 a3 c3x a4 c4),.int .i64 a] wr fun e w'=>Res (fun b=>wr.heap.size≤b) wr n e w'):=by rw [hn];exact rback_any HPM.out a (by unfold I64;omega)
       have HCO:Hid (I64 n.2):=by rw [hn];exact back_code _ _
       rw [← hn] at HNO HYE
       obtain ⟨hql,hgl⟩:=HQL.out
       clear hn HPM
       go_wp2_with fail
       refine HDE.out.mono ?_
       rintro e V2 ⟨nv,rfl,hn1,hn2,hb2⟩
       have HN1:=hid hn1
       have HN2:=hid hn2
       have hsz2:=hb2.size
       obtain ⟨u1,z1,u2,z2,u3,z3,u4,z4,rfl,_⟩:=hn1.open
       have HB3:Hid (Below wr.heap.size wr (V2.alloc (.cells (PP n.1 u1 z1 u2 z2 u3 z3 u4 z4) 54))):=hb2.alloc hb2.size _
       have HY:Hid ((V2.alloc (.cells (PP n.1 u1 z1 u2 z2 u3 z3 u4 z4) 54)).heap[V2.heap.size]?=some (.cells (PP n.1 u1 z1 u2 z2 u3 z3 u4 z4) 54)):=heap_alloc_new _ _
       have HP3:Hid (PartM (V2.alloc (.cells (PP n.1 u1 z1 u2 z2 u3 z3 u4 z4) 54)) (.agg (PP n.1 u1 z1 u2 z2 u3 z3 u4 z4)) n.1):=hn1.under ((Below.refl _ _).alloc (Nat.le_refl _) _)
       have hgq3:¬ q=gp:=HGQ.out
       have hgq4:¬ gp=q:=fun e=>HGQ.out e.symm
       have hne1:¬ gp=V2.heap.size:=by omega
       have hne2:¬ V2.heap.size=gp:=by omega
       replace c3:=kept_cell hb2 c3
       replace r0:=kept_cell hb2 r0
       replace r1:=kept_cell hb2 r1
       replace r2:=kept_cell hb2 r2
       replace r3:=kept_cell hb2 r3
       replace r4:=kept_cell hb2 r4
       replace r5:=kept_cell hb2 r5
       replace r6:=kept_cell hb2 r6
       replace r7:=kept_cell hb2 r7
       replace r8:=kept_cell hb2 r8
       clear hn1 hn2 hb2 HDE
       by_cases h0:n.2=0
       ·have HEND:Hid (LoopD W1 (puts (V2.alloc (.cells (PP n.1 u1 z1 u2 z2 u3 z3 u4 z4) 54)) gp (k*9) [.int .i64 n.1.id,.int .i64 n.1.leader,.int .i64 n.1.epoch,.int .i64 n.1.ver,.slice u1 n.1.isr.length z1,.slice u2 n.1.reps.length z2,.slice u3 n.1.add.length z3,.slice u4 n.1.rem.length z4,.int .i64 n.1.min]).drew L q (.slice (some ⟨g,0,none⟩) I.brs.length cb) vt (.slice (some ⟨gp,0,none⟩) J.parts.length cap) ve J (fun p=>backP p a) (k+1)):=(HYE.out _ _ _ HB3.out h0 HP3.out HN2.out (puts_all [.int .i64 n.1.id,.int .i64 n.1.leader,.int .i64 n.1.epoch,.int .i64 n.1.ver,.slice u1 n.1.isr.length z1,.slice u2 n.1.reps.length z2,.slice u3 n.1.add.length z3,.slice u4 n.1.rem.length z4,.int .i64 n.1.min] _ gp (k*9))).under (Below.refl _ _).drew
        obtain ⟨m0,m1,m2,m3,m4,m5,m6,m7,m8⟩:=cells9 HY.out
        have f0:=HFR.out _ HB3.out (k*9)
        have f1:=HFR.out _ HB3.out (k*9+1)
        have f2:=HFR.out _ HB3.out (k*9+2)
        have f3:=HFR.out _ HB3.out (k*9+3)
        have f4:=HFR.out _ HB3.out (k*9+4)
        have f5:=HFR.out _ HB3.out (k*9+5)
        have f6:=HFR.out _ HB3.out (k*9+6)
        have f7:=HFR.out _ HB3.out (k*9+7)
        have f8:=HFR.out _ HB3.out (k*9+8)
        rw [h0]
        have q3:(V2.alloc (.cells (PP n.1 u1 z1 u2 z2 u3 z3 u4 z4) 54)).cell? ⟨q,3,none⟩=some (.slice (some ⟨gp,0,none⟩) J.parts.length cap):=kept_cell ((Below.refl _ _).alloc (Nat.le_refl _) _) c3
        replace r0:=kept_cell ((Below.refl _ V2).alloc (Nat.le_refl _) (.cells (PP n.1 u1 z1 u2 z2 u3 z3 u4 z4) 54)) r0
        replace r1:=kept_cell ((Below.refl _ V2).alloc (Nat.le_refl _) (.cells (PP n.1 u1 z1 u2 z2 u3 z3 u4 z4) 54)) r1
        replace r2:=kept_cell ((Below.refl _ V2).alloc (Nat.le_refl _) (.cells (PP n.1 u1 z1 u2 z2 u3 z3 u4 z4) 54)) r2
        replace r3:=kept_cell ((Below.refl _ V2).alloc (Nat.le_refl _) (.cells (PP n.1 u1 z1 u2 z2 u3 z3 u4 z4) 54)) r3
        replace r4:=kept_cell ((Below.refl _ V2).alloc (Nat.le_refl _) (.cells (PP n.1 u1 z1 u2 z2 u3 z3 u4 z4) 54)) r4
        replace r5:=kept_cell ((Below.refl _ V2).alloc (Nat.le_refl _) (.cells (PP n.1 u1 z1 u2 z2 u3 z3 u4 z4) 54)) r5
        replace r6:=kept_cell ((Below.refl _ V2).alloc (Nat.le_refl _) (.cells (PP n.1 u1 z1 u2 z2 u3 z3 u4 z4) 54)) r6
        replace r7:=kept_cell ((Below.refl _ V2).alloc (Nat.le_refl _) (.cells (PP n.1 u1 z1 u2 z2 u3 z3 u4 z4) 54)) r7
        replace r8:=kept_cell ((Below.refl _ V2).alloc (Nat.le_refl _) (.cells (PP n.1 u1 z1 u2 z2 u3 z3 u4 z4) 54)) r8
        clear c3
        go_upto_region 19 with fail
        generalize V2.alloc (.cells (PP n.1 u1 z1 u2 z2 u3 z3 u4 z4) 54)=W3 at *
        generalize V2.heap.size=y at *
        go_region_with (fail)
        all_goals
         go_wp2_with fail
         go_roundg (J.parts.length - (k+1))
         case measure=>omega
         case rel=>exact ⟨k+1,by omega,Nat.le_refl _,by go_num,HEND.out⟩
       ·have HEND:Hid (LoopD W1 (V2.alloc (.cells (PP n.1 u1 z1 u2 z2 u3 z3 u4 z4) 54)) L q (.slice (some ⟨g,0,none⟩) I.brs.length cb) vt (.slice (some ⟨gp,0,none⟩) J.parts.length cap) ve J (fun p=>backP p a) (k+1)):=HNO.out _ HB3.out h0
        have h0':(n.2 == 0)=false:=by simp [h0]
        clear HYE HNO HN1 HN2 HP3 HY r0 r1 r2 r3 r4 r5 r6 r7 r8
        obtain ⟨n2,hn2⟩:∃ n2,n2=n.2:=⟨_,rfl⟩
        rw [← hn2] at h0 h0' HCO ⊢
        clear hn2
        go_wp2_with fail
        go_roundg (J.parts.length - (k+1))
        case measure=>omega
        case rel=>exact ⟨k+1,by omega,Nat.le_refl _,by go_num,HEND.out⟩
      ·have hlt':¬ (k:Int)<(J.parts.length:Int):=by omega
       have HKE:=HK
       clear HK
       go_wp2_with fail
       go_ret
       obtain ⟨⟨L',ps',i1,i2⟩,i3⟩:=HKE.out
       rw [stepK_all _ _ _ (by omega)] at i1
       have hsz:=HSZ.out
       have hD:DOut L w wr q (.slice (some ⟨g,0,none⟩) I.brs.length cb) vt (.slice oa J.parts.length cap) ve _:=⟨L',ps',i1,fun j hj=>(i2 j hj).elim .inl (fun h=>.inr (by omega)),HKW.out.trans i3 (fun x hx=>.inl hx)⟩
       exact ⟨rfl,hD.after HZ.out.1 HZ.out.2⟩
  ·have HR:Hid (R=13):=by show _=_;rw [HF.out,if_pos k3]
   have HJ:Hid (T=I):=HT.out (by rw [HR.out];decide)
   have k3':¬ b.life=rb:=fun e=>k3 e.symm
   rw [HR.out,HJ.out]
   clear HF HT HR HJ h HT0 hgb hx hv hpos
   obtain ⟨lf,bu⟩:=b
   simp only at k3 k3' b0 b1 b2
   have k3'':(lf == rb)=false:=by simp [k3']
   go_enter Tryz.func34,Tryz.ntmps34
   go_wp2_with fail
   refine H75.out.mono ?_
   rintro e w1 ⟨rfl,rfl⟩
   go_wp2_with fail
   go_ret
   exact ⟨rfl,HS.out⟩
end Go.Proofs.YtcffomhcmilcpaaGreat
