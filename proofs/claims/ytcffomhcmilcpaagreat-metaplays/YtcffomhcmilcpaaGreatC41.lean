/- The document: the first replica is preferred. -/
import Derived.Test.YtcffomhcmilcpaaGreatC35
import Derived.Test.YtcffomhcmilcpaaGreatC36
import Derived.Test.YtcffomhcmilcpaaGreatC37
import Derived.Test.YtcffomhcmilcpaaGreatC39
import Derived.Test.YtcffomhcmilcpaaGreatC38
import Derived.Test.YtcffomhcmilcpaaGreatC27
import Derived.Test.YtcffomhcmilcpaaGreatC17
import Derived.BigQuiet
import Derived.Deep.CutRange
import Derived.Deep.CutBlock
import Derived.Test.YtcffomhcmilcpaaGreatC40
import Derived.Test.YtcffomhcmilcpaaGreatC22
set_option maxRecDepth 100000
set_option maxHeartbeats 20000000
set_option linter.unusedVariables false
set_option linter.unusedSimpArgs false
namespace Go.Proofs.YtcffomhcmilcpaaGreat
open Go.RowKit Go.Maps
theorem head_get:∀ (l:List Int) (h:0<l.length),l[0]=headL l
 | [],h=>by simp at h
 | x :: r,h=>rfl
theorem rturn_9 {w:World} {Z:Nat→Prop} {q:Nat} {I:Im} (hi:DImg w Z q I) {v:Value} {r:Rc} (hr:RecM w v r) (hkd:r.kind=9):Calls Tryz.prog 36 #[.pointer (some ⟨q,0,none⟩),v] w fun e w'=>e=.returned (.tuple #[.int .i64 (turnI I r).2.1,.int .i64 (turnI I r).2.2])∧DAfter Z w w' q (turnI I r).1:=by
 obtain ⟨L,vb,vt,vp,ve,ps,h,hz4,hz5,hz6⟩:=hi
 have HIMG:Hid (DImg w Z q I):=⟨L,vb,vt,vp,ve,ps,h,hz4,hz5,hz6⟩
 have HZ:=hid (And.intro hz4 hz5)
 have HRM:=hid hr
 obtain ⟨⟨lv,rfl,hil⟩,ok,hname⟩:=hr
 obtain ⟨⟨la,lc,rfl,_⟩,_⟩:=hil
 obtain ⟨rk,ra,rb,rc,rd,rn,rt,rl⟩:=r
 simp only at ok hname HRM ⊢
 have oka:=ok.a
 simp only at oka
 have hbA:Below w.heap.size w (w.alloc (.cells (RV rk ra rb rc rd rn rt la rl.length lc) 34)):=(Below.refl _ _).alloc (Nat.le_refl _) _
 have HBA:=hid hbA
 have HI:=hid (h.under hbA)
 have HRM1:=hid (HRM.out.under hbA)
 have hB:=heap_alloc_new w (.cells (RV rk ra rb rc rd rn rt la rl.length lc) 34)
 have hqlt:q<w.heap.size:=h.lt (.inl rfl)
 have HOW:Hid (∀ k,OwnD q vb vt vp ve k→k<w.heap.size):=fun k hk=>h.lt hk
 have hWs:(w.alloc (.cells (RV rk ra rb rc rd rn rt la rl.length lc) 34)).heap.size=w.heap.size+1:=by simp
 obtain ⟨a0,a1,a2,a3,a4,a5,a6,a7⟩:=cells8 hB
 have HBX:=hid hB
 clear hbA hB h hz4 hz5 hz6 ok
 simp only at hkd
 have HKD:=hid hkd
 clear hkd
 have HF:Hid (turnI I ⟨rk,ra,rb,rc,rd,rn,rt,rl⟩=if !upB ra I.parts.length then (I,0,8) else ({ I with parts:=takeI I.parts (turnP I.brs ⟨rk,ra,rb,rc,rd,rn,rt,rl⟩ (I.parts[ra.toNat - 1]?.getD Pt.zero)) },(turnP I.brs ⟨rk,ra,rb,rc,rd,rn,rt,rl⟩ (I.parts[ra.toNat - 1]?.getD Pt.zero)).1.ver,(turnP I.brs ⟨rk,ra,rb,rc,rd,rn,rt,rl⟩ (I.parts[ra.toNat - 1]?.getD Pt.zero)).2)):=rfl
 generalize turnI I ⟨rk,ra,rb,rc,rd,rn,rt,rl⟩=R at *
 obtain ⟨oa,cap,hvp,_,_,_,hat⟩:=row_shape HI.out.parts
 have hpl:=HI.out.plen
 have hf16:=HI.out.ok.few
 rw [← hpl] at hvp hat
 subst hvp
 have HPLN:=hid hpl
 clear hpl
 have c3:=HI.out.c3
 unfold I64 at oka
 go_enter Tryz.func36,Tryz.ntmps36
 go_upto_region 1 with fail
 generalize w.alloc (.cells (RV rk ra rb rc rd rn rt la rl.length lc) 34)=W at *
 obtain ⟨x,hx⟩:∃ x,x=w.heap.size:=⟨_,rfl⟩
 rw [← hx] at a0 a1 a2 a3 a4 a5 a6 a7 hWs hqlt HBX HOW ⊢
 have HXW:=hid hx
 clear hx
 obtain ⟨B,hB⟩:∃ B,upB ra (I.parts.length:Int)=B:=⟨_,rfl⟩
 rw [hB] at HF
 go_cut [22] from 10 to 23 (fun s22 V=>s22=.bool (!B)∧Hid (Below W.heap.size W V))
 case first =>
  by_cases hra:ra<1
  ·have hBF:B=false:=by rw [← hB];unfold upB;simp;omega
   subst hBF
   have hd:decide (ra<1)=true:=by simpa using hra
   go_quiet (fail)
   go_wp2_with fail
   go_meet
   case rel=>exact ⟨rfl,by first | exact (Below.refl _ _).drew | exact below_drewN (Below.refl _ _) _ | exact Below.refl _ _⟩
  ·have hd:decide (ra<1)=false:=by simpa using hra
   by_cases hrl:(I.parts.length:Int)<ra
   ·have hBF:B=false:=by rw [← hB];unfold upB;simp;omega
    subst hBF
    go_quiet (fail)
    go_wp2_with fail
    go_meet
    case rel=>exact ⟨rfl,by first | exact (Below.refl _ _).drew | exact below_drewN (Below.refl _ _) _ | exact Below.refl _ _⟩
   ·have hBT:B=true:=by rw [← hB];unfold upB;simp;omega
    subst hBT
    go_quiet (fail)
    go_wp2_with fail
    go_meet
    case rel=>exact ⟨rfl,by first | exact (Below.refl _ _).drew | exact below_drewN (Below.refl _ _) _ | exact Below.refl _ _⟩
 case rest =>
  obtain ⟨rfl,HBC⟩:=hcut
  cases B with
  | false =>
   rw [if_pos (show (!false)=true from rfl)] at HF
   have HS:=hid (HIMG.out.after (HBA.out.trans (HBC.out.mono HBA.out.size)))
   go_wp2_with fail
   go_ret2
   exact ⟨by rw [HF.out];rfl,by rw [HF.out];exact HS.out⟩
  | true =>
   rw [if_neg (by simp)] at HF
   have hup:=upB_iff.1 hB
   obtain ⟨i,hii⟩:∃ i:Nat,ra=(i:Int)+1:=⟨ra.toNat - 1,by omega⟩
   have hil:i<I.parts.length:=by omega
   have hget:I.parts[ra.toNat - 1]?.getD Pt.zero=I.parts[i]:=by rw [show ra.toNat - 1=i by omega];simp [hil]
   rw [hget] at HF
   obtain ⟨g,rfl⟩:=hat (by omega)
   have HI2:=hid (HI.out.under HBC.out)
   have hpsl:i<ps.length:=by rw [← HPLN.out];exact hil
   obtain ⟨pv,hpm,_,hrr⟩:=HI2.out.pt i hil
   obtain ⟨x1,y1,x2,y2,x3,y3,x4,y4,hu,_⟩:=hpm.open
   subst hu
   obtain ⟨hright,hpid⟩:=HI2.out.ok.parts i I.parts[i] (List.getElem?_eq_getElem hil)
   generalize I.parts[i]=p at *
   have HPM:=hid hpm
   have HRT:=hid hright
   have HPID:=hid hpid
   have r0:=hrr 0 (by decide) _ rfl
   have r1:=hrr 1 (by decide) _ rfl
   have r2:=hrr 2 (by decide) _ rfl
   have r3:=hrr 3 (by decide) _ rfl
   have r4:=hrr 4 (by decide) _ rfl
   have r5:=hrr 5 (by decide) _ rfl
   have r6:=hrr 6 (by decide) _ rfl
   have r7:=hrr 7 (by decide) _ rfl
   have r8:=hrr 8 (by decide) _ rfl
   rw [Nat.add_zero] at r0
   have HM:Hid (∀ V,Below wc.heap.size wc V→V.cell? ⟨q,3,none⟩=some (.slice (some ⟨g,0,none⟩) I.parts.length cap)∧V.cell? ⟨x,0,none⟩=some (.int .i64 rk)∧V.cell? ⟨x,1,none⟩=some (.int .i64 ra)∧V.cell? ⟨x,2,none⟩=some (.int .i64 rb)∧V.cell? ⟨x,3,none⟩=some (.int .i64 rc)∧V.cell? ⟨x,4,none⟩=some (.int .i64 rd)∧V.cell? ⟨x,5,none⟩=some (.string rn)∧V.cell? ⟨x,6,none⟩=some (.string rt)∧V.cell? ⟨x,7,none⟩=some (.slice la rl.length lc)∧V.cell? ⟨g,i*9,none⟩=some (.int .i64 p.id)∧V.cell? ⟨g,i*9+1,none⟩=some (.int .i64 p.leader)∧V.cell? ⟨g,i*9+2,none⟩=some (.int .i64 p.epoch)∧V.cell? ⟨g,i*9+3,none⟩=some (.int .i64 p.ver)∧V.cell? ⟨g,i*9+4,none⟩=some (.slice x1 p.isr.length y1)∧V.cell? ⟨g,i*9+5,none⟩=some (.slice x2 p.reps.length y2)∧V.cell? ⟨g,i*9+6,none⟩=some (.slice x3 p.add.length y3)∧V.cell? ⟨g,i*9+7,none⟩=some (.slice x4 p.rem.length y4)∧V.cell? ⟨g,i*9+8,none⟩=some (.int .i64 p.min)):=fun V hV=>⟨kept_cell hV HI2.out.c3,kept_cell (HBC.out.trans (hV.mono HBC.out.size)) a0,kept_cell (HBC.out.trans (hV.mono HBC.out.size)) a1,kept_cell (HBC.out.trans (hV.mono HBC.out.size)) a2,kept_cell (HBC.out.trans (hV.mono HBC.out.size)) a3,kept_cell (HBC.out.trans (hV.mono HBC.out.size)) a4,kept_cell (HBC.out.trans (hV.mono HBC.out.size)) a5,kept_cell (HBC.out.trans (hV.mono HBC.out.size)) a6,kept_cell (HBC.out.trans (hV.mono HBC.out.size)) a7,kept_cell hV r0,kept_cell hV r1,kept_cell hV r2,kept_cell hV r3,kept_cell hV r4,kept_cell hV r5,kept_cell hV r6,kept_cell hV r7,kept_cell hV r8⟩
   clear a0 a1 a2 a3 a4 a5 a6 a7 c3 r0 r1 r2 r3 r4 r5 r6 r7 r8 hrr hpm hright hpid hget
   obtain ⟨q3,b0,b1,b2,b3,b4,b5,b6,b7,r0,r1,r2,r3,r4,r5,r6,r7,r8⟩:=HM.out wc (Below.refl _ _)
   have HRM2:=hid (HRM1.out.under HBC.out)
   have HLR:Hid (IL wc (.slice la rl.length lc) rl):=by
    obtain ⟨lv,e,h9⟩:=HRM2.out.shape
    simp only [Value.agg.injEq] at e
    have e2:=congrArg (fun z:Array Value=>z[7]?) e
    simp at e2
    rw [e2];exact h9
   obtain ⟨n,hn⟩:∃ n,n=turnP I.brs ⟨rk,ra,rb,rc,rd,rn,rt,rl⟩ p:=⟨_,rfl⟩
   rw [← hn] at HF
   have HNN:=hid hn
   have hxlt:x<wc.heap.size:=by have:=HBC.out.size;omega
   have hglt:g<wc.heap.size:=HI2.out.lt (.inr (.inr (.inr (.inl rfl))))
   have hqw:q<wc.heap.size:=HI2.out.lt (.inl rfl)
   have hw1:IntKind.i64.wrap (ra - 1)=(i:Int):=by rw [show ra - 1=(i:Int) by omega];exact IntWalk.i64_in _ ⟨by omega,by omega⟩
   have hil':(i:Int)<(I.parts.length:Int):=by omega
   have HII:=hid hii
   have HWX:=hid hWs
   clear hii hn hB hup hWs
   generalize wc=W2 at *
   have nx:¬ x=W2.heap.size:=by omega
   have nq:¬ q=W2.heap.size:=by omega
   have ng:¬ g=W2.heap.size:=by omega
   have nx2:¬ W2.heap.size=x:=by omega
   have nq2:¬ W2.heap.size=q:=by omega
   have ng2:¬ W2.heap.size=g:=by omega
   have hi0:(0:Int)≤(i:Int):=by omega
   have hbx:Below W2.heap.size W2 (W2.alloc (.cells (PP p x1 y1 x2 y2 x3 y3 x4 y4) 54)):=(Below.refl _ _).alloc (Nat.le_refl _) _
   have HBX3:=hid hbx
   have HNX3:Hid ((W2.alloc (.cells (PP p x1 y1 x2 y2 x3 y3 x4 y4) 54)).heap[W2.heap.size]?=some (.cells (PP p x1 y1 x2 y2 x3 y3 x4 y4) 54)):=heap_alloc_new _ _
   clear hbx
   go_wp2_with fail
   go_cut [6] from 23 to 32 (fun s6 V=>s6=.pointer (some ⟨W2.heap.size,0,none⟩)∧Hid (Below W2.heap.size W2 V∧V.heap[W2.heap.size]?=some (.cells (PP p x1 y1 x2 y2 x3 y3 x4 y4) 54)))
   case first =>
    go_region_held3 (fun V=>V.cell? ⟨q,3,none⟩=some (.slice (some ⟨g,0,none⟩) I.parts.length cap)∧V.cell? ⟨x,1,none⟩=some (.int .i64 ra)∧V.cell? ⟨g,i*9,none⟩=some (.int .i64 p.id)∧V.cell? ⟨g,i*9+1,none⟩=some (.int .i64 p.leader)∧V.cell? ⟨g,i*9+2,none⟩=some (.int .i64 p.epoch)∧V.cell? ⟨g,i*9+3,none⟩=some (.int .i64 p.ver)∧V.cell? ⟨g,i*9+4,none⟩=some (.slice x1 p.isr.length y1)∧V.cell? ⟨g,i*9+5,none⟩=some (.slice x2 p.reps.length y2)∧V.cell? ⟨g,i*9+6,none⟩=some (.slice x3 p.add.length y3)∧V.cell? ⟨g,i*9+7,none⟩=some (.slice x4 p.rem.length y4)∧V.cell? ⟨g,i*9+8,none⟩=some (.int .i64 p.min)) (go_keep) (fail)
    all_goals
     go_wp2_with fail
     go_meet
     case rel=>exact ⟨rfl,by first | exact ⟨HBX3.out.drew,HNX3.out⟩ | exact ⟨HBX3.out,HNX3.out⟩ | exact ⟨below_drewN HBX3.out _,HNX3.out⟩⟩
   case rest =>
    obtain ⟨rfl,HY⟩:=hcut
    generalize wc=W3 at *
    clear q3 b0 b1 b2 b3 b4 b5 b6 b7 r0 r1 r2 r3 r4 r5 r6 r7 r8 HBX3 HNX3
    have HYB:Hid (Below W2.heap.size W2 W3):=HY.out.1
    obtain ⟨y,hy⟩:∃ y,y=W2.heap.size:=⟨_,rfl⟩
    have HYE:=hid hy
    rw [← hy] at nx nq ng nx2 nq2 ng2 HY ⊢
    clear hy
    have HUP:=hid (rup_any (HI2.out.under HYB.out))
    have HRP:Hid (∀ V,Below W2.heap.size W2 V→IL V (.slice x2 p.reps.length y2) p.reps):=fun V hV=>by
     obtain ⟨a1,c1,a2,c2,a3,c3,a4,c4,e,_,q2,_⟩:=(HPM.out.under hV).open
     simp only [Value.agg.injEq] at e
     have e2:=congrArg (fun z:Array Value=>z[5]?) e
     simp at e2
     obtain ⟨rfl,rfl⟩:=e2
     exact q2
    have hr0:0<p.reps.length:=reps_some HRT.out
    obtain ⟨h9,hh9⟩:∃ h9,h9=headL p.reps:=⟨_,rfl⟩
    have hg9:p.reps[0]=h9:=by rw [hh9];exact head_get _ hr0
    obtain ⟨B9,hB9⟩:∃ B9,B9=hasB (upL I.brs) h9:=⟨_,rfl⟩
    have HTU:Hid (turnP I.brs ⟨rk,ra,rb,rc,rd,rn,rt,rl⟩ p=if B9 then electP p h9 else (Pt.zero,19)):=by
     show _=_
     have hkd:=HKD.out
     have e:turnP I.brs ⟨rk,ra,rb,rc,rd,rn,rt,rl⟩ p=preferP I.brs p:=by unfold turnP;simp [hkd]
     rw [e]
     unfold preferP
     rw [← hh9]
     have hv:(valB I.brs h9).up=B9:=by
      rw [hB9]
      cases hx:(valB I.brs h9).up with
      | true=>exact (hasB_iff.2 (mem_upL hx)).symm
      | false =>
       cases hy:hasB (upL I.brs) h9 with
       | false=>rfl
       | true =>
        have:=up_val HI2.out.ok.keys (hasB_iff.1 hy)
        rw [hx] at this;cases this
     rw [hv]
     cases B9 <;> rfl
    have hi9:I64 h9:=by rw [← hg9];exact (HRP.out W2 (Below.refl _ _)).ok _ (List.getElem_mem hr0)
    have HI9:=hid hi9
    have HB9:=hid hB9
    have HCH:Hid (∀ V,Below W2.heap.size W2 V→∃ rb0 ro0,x2=some ⟨rb0,ro0,none⟩∧V.cell? ⟨rb0,ro0,none⟩=some (.int .i64 h9)):=fun V hV=>by
     obtain ⟨⟨a',c',e',_,_,_,hat'⟩,_⟩:=HRP.out V hV
     simp only [Value.slice.injEq] at e'
     obtain ⟨b',o',e2,_,hc'⟩:=hat' (by intro e;rw [e] at hr0;simp at hr0)
     have:=hc' 0 hr0
     rw [hg9,Nat.add_zero] at this
     exact ⟨b',o',e'.1.trans e2,this⟩
    have HTC:Hid (∀ V,Below W2.heap.size W2 V→Calls Tryz.prog 84 #[.agg (PP p x1 y1 x2 y2 x3 y3 x4 y4),.int .i64 h9] V fun e w'=>Res (fun b=>V.heap.size≤b) V (electP p h9) e w'):=fun V hV=>relect_any (HPM.out.under hV) h9 HI9.out
    have hr0':(0:Int)<(p.reps.length:Int):=by omega
    clear hB9 hi9 hg9 hh9
    go_wp2_with fail
    refine HUP.out.mono ?_
    rintro e V1 ⟨uv,rfl,hu1,hu2,hb1⟩
    obtain ⟨ua,uc,rfl,_⟩:=hu1.shape
    have HU1:=hid hu1
    have HB1:Hid (Below W2.heap.size W2 V1):=HYB.out.trans (hb1.mono HYB.out.size)
    have hylt3:=(Array.getElem?_eq_some_iff.1 HY.out.2).1
    have HY1:Hid (V1.heap[y]?=some (.cells (PP p x1 y1 x2 y2 x3 y3 x4 y4) 54)):=(hb1.block y hylt3).trans HY.out.2
    have hy1:=(Array.getElem?_eq_some_iff.1 HY1.out).1
    obtain ⟨m0,m1,m2,m3,m4,m5,m6,m7,m8⟩:=cells9 HY1.out
    clear hu1 hu2 hb1 HUP hylt3
    obtain ⟨q3,b0,b1,b2,b3,b4,b5,b6,b7,r0,r1,r2,r3,r4,r5,r6,r7,r8⟩:=HM.out V1 HB1.out
    rw [HKD.out] at b0
    clear q3 r0 r1 r2 r3 r4 r5 r6 r7 r8
    obtain ⟨rb0,ro0,hx2,hch⟩:=HCH.out V1 HB1.out
    subst hx2
    have H83:Hid (Calls Tryz.prog 83 #[.slice ua (upL I.brs).length uc,.int .i64 h9] V1 fun e w'=>e=.returned (.bool B9)∧V1=w'):=by
     rw [HB9.out];exact rhas_any HU1.out h9 HI9.out
    cases hB9c:B9 with
    | false =>
     rw [hB9c] at H83 HTU
     have hnz:n=(Pt.zero,19):=by rw [HNN.out,HTU.out];rfl
     have HTI:Hid (takeI I.parts n=I.parts):=by show _=_;unfold takeI;rw [hnz,if_neg (by simp)]
     rw [HTI.out,hnz] at HF
     have HEND:Hid (DAfter Z w V1 q I):=HIMG.out.after (HBA.out.trans ((HBC.out.trans (HB1.out.mono HBC.out.size)).mono HBA.out.size))
     clear hnz
     go_wp2_with fail
     refine H83.out.mono ?_
     rintro e w9 ⟨rfl,rfl⟩
     go_wp2_with fail
     go_ret2
     exact ⟨by rw [HF.out];rfl,by rw [HF.out];exact HEND.out⟩
    | true =>
    rw [hB9c] at H83 HTU
    have HNE:Hid (n=electP p h9):=by show _=_;rw [HNN.out,HTU.out];rfl
    clear hB9c
    go_upto_block 0 with fail
    go_cut [6,8] from 34 to 95 (fun s6 s8 V=>TB W2 n s6 s8 V)
    case first =>
     go_wp2_with fail
     refine H83.out.mono ?_
     rintro e w9 ⟨rfl,rfl⟩
     go_wp2_with fail
     clear b0 b1 b2 b3 b4 b5 b6 b7
     go_region_with ((go_at_call 84;go_loud (refine (HTC.out _ (HB1.out.trans ((show Below V1.heap.size V1 _ by repeat (first | exact Below.refl _ _ | apply Below.drew)).mono HB1.out.size))).mono ?_;rintro e w5 ⟨v5,rfl,hp5,hi5,hb5⟩;have hb6:=(show Below V1.heap.size V1 _ by repeat (first | exact Below.refl _ _ | apply Below.drew)).trans (hb5.mono (show Below V1.heap.size V1 _ by repeat (first | exact Below.refl _ _ | apply Below.drew)).size);rw [← HNE.out] at hp5 hi5 ⊢;obtain ⟨u1,z1,u2,z2,u3,z3,u4,z4,hu5,_⟩:=hp5.open;subst hu5;have HTB:=hid (TB.at3 hp5 (hi5.mono fun k hk=>by have h7:V1.heap.size≤k:=hk;omega) (HB1.out.trans (hb6.mono HB1.out.size)) (by have:=HYE.out;omega) ((hb6.block y hy1).trans HY1.out) rfl);have HY5:=hid ((hb6.block y hy1).trans HY1.out);have f5:=frz_blk HY5.out;clear m0 m1 m2 m3 m4 m5 m6 m7 m8;have m0:=cell_blk HY5.out 0 _ rfl;have m1:=cell_blk HY5.out 1 _ rfl;have m2:=cell_blk HY5.out 2 _ rfl;have m3:=cell_blk HY5.out 3 _ rfl;have m4:=cell_blk HY5.out 4 _ rfl;have m5:=cell_blk HY5.out 5 _ rfl;have m6:=cell_blk HY5.out 6 _ rfl;have m7:=cell_blk HY5.out 7 _ rfl;have m8:=cell_blk HY5.out 8 _ rfl;clear hp5 hi5 hb5 hb6)))
     all_goals
      go_wp2_with fail
      go_meet
      case rel=>first | exact HTB.out | exact HTB.out.drew
    case rest =>
     obtain ⟨y2,u1,u2,u3,u4,z1,z2,z3,z4,rfl,rfl,hy2,hpm2,hin2,hbl2,hyw⟩:=hcut
     have HPM2:=hid hpm2
     have HIN2:=hid hin2
     have HBL2:=hid hbl2
     have HYC:=hid hy2
     have m0':=cell_blk hy2 0 _ rfl
     have m1':=cell_blk hy2 1 _ rfl
     have m2':=cell_blk hy2 2 _ rfl
     have m3':=cell_blk hy2 3 _ rfl
     have m4':=cell_blk hy2 4 _ rfl
     have m5':=cell_blk hy2 5 _ rfl
     have m6':=cell_blk hy2 6 _ rfl
     have m7':=cell_blk hy2 7 _ rfl
     have m8':=cell_blk hy2 8 _ rfl
     clear b0 b1 b2 b3 b4 b5 b6 b7 m0 m1 m2 m3 m4 m5 m6 m7 m8
     obtain ⟨q3,b0,b1,b2,b3,b4,b5,b6,b7,r0,r1,r2,r3,r4,r5,r6,r7,r8⟩:=HM.out wc hbl2
     obtain ⟨curp,hcurp⟩:=row_blk HI2.out.parts (k:=g) rfl
     have HFR:Hid (∀ j,wc.frozen? ⟨g,j,none⟩=false):=frz_blk ((hbl2.block g hglt).trans hcurp)
     have f0:=HFR.out (i*9)
     have f1:=HFR.out (i*9+1)
     have f2:=HFR.out (i*9+2)
     have f3:=HFR.out (i*9+3)
     have f4:=HFR.out (i*9+4)
     have f5:=HFR.out (i*9+5)
     have f6:=HFR.out (i*9+6)
     have f7:=HFR.out (i*9+7)
     have f8:=HFR.out (i*9+8)
     have hsw:=hbl2.size
     have hy2l:=(Array.getElem?_eq_some_iff.1 hy2).1
     have hne1:¬ g=y2:=by omega
     have hne2:¬ y2=g:=by omega
     have hnx1:¬ x=y2:=by omega
     have hnx2:¬ y2=x:=by omega
     have hnq1:¬ q=y2:=by omega
     have hnq2:¬ y2=q:=by omega
     have HGX:Hid (x≠g):=fun e=>by have:=HOW.out g (.inr (.inr (.inr (.inl rfl))));omega
     have HGQ:Hid (q≠g):=fun e=>HI2.out.ne_q.2.2.1 (by rw [e];rfl)
     have hgq3:¬ q=g:=HGQ.out
     have hgq4:¬ g=q:=fun e=>HGQ.out e.symm
     clear hy2 hpm2 hin2 hbl2 hcurp HU1 HY1 HB1 HTC
     generalize wc=W4 at *
     by_cases h0:n.2=0
     ·have hok2:RightP n.1∧n.1.id=(i:Int)+1:=by rw [HNN.out] at h0 ⊢;exact turn_right HRT.out HPID.out h0
      have HOK2:=hid hok2
      have HTI:Hid (takeI I.parts n=I.parts.set i n.1):=by show _=_;unfold takeI;rw [if_pos h0,hok2.2,show ((i:Int)+1 - 1).toNat=i by omega]
      rw [HTI.out] at HF
      have HPU:=hid (puts_all [.int .i64 n.1.id,.int .i64 n.1.leader,.int .i64 n.1.epoch,.int .i64 n.1.ver,.slice u1 n.1.isr.length z1,.slice u2 n.1.reps.length z2,.slice u3 n.1.add.length z3,.slice u4 n.1.rem.length z4,.int .i64 n.1.min] W4 g (i*9))
      have HEND:Hid (∀ V,Below (puts W4 g (i*9) [.int .i64 n.1.id,.int .i64 n.1.leader,.int .i64 n.1.epoch,.int .i64 n.1.ver,.slice u1 n.1.isr.length z1,.slice u2 n.1.reps.length z2,.slice u3 n.1.add.length z3,.slice u4 n.1.rem.length z4,.int .i64 n.1.min]).heap.size (puts W4 g (i*9) [.int .i64 n.1.id,.int .i64 n.1.leader,.int .i64 n.1.epoch,.int .i64 n.1.ver,.slice u1 n.1.isr.length z1,.slice u2 n.1.reps.length z2,.slice u3 n.1.add.length z3,.slice u4 n.1.rem.length z4,.int .i64 n.1.min]) V→DAfter Z w V q R.1∧V.cell? ⟨y2,3,none⟩=some (.int .i64 n.1.ver)):=fun V hV=>by
       have hT:=(HI2.out.under HBL2.out).take (X:=fun k=>W2.heap.size≤k∧k<W4.heap.size) HPM2.out (HIN2.out.and HPM2.out.old) (fun k hk=>⟨hk.2,fun ho=>by have:=HI2.out.lt ho;omega⟩) HOK2.out.1 i (by rw [← HPLN.out];exact hil) HOK2.out.2 HPU.out
       have hy3:=(HPU.out.other y2 hne2).trans HYC.out
       have hk9:Keeps (OwnD q vb vt (.slice (some ⟨g,0,none⟩) I.parts.length cap) ve) W4 (puts W4 g (i*9) [.int .i64 n.1.id,.int .i64 n.1.leader,.int .i64 n.1.epoch,.int .i64 n.1.ver,.slice u1 n.1.isr.length z1,.slice u2 n.1.reps.length z2,.slice u3 n.1.add.length z3,.slice u4 n.1.rem.length z4,.int .i64 n.1.min]):=HPU.out.keeps (.inr (.inr (.inr (.inl rfl))))
       refine ⟨?_,cell_blk ((hV.block y2 (Array.getElem?_eq_some_iff.1 hy3).1).trans hy3) 3 _ rfl⟩
       rw [HF.out]
       have hb4:Below w.heap.size w W4:=HBA.out.trans ((HBC.out.trans (HBL2.out.mono HBC.out.size)).mono HBA.out.size)
       have hk10:=((Keeps.of_below (S:=OwnD q vb vt (.slice (some ⟨g,0,none⟩) I.parts.length cap) ve) hb4).trans hk9 (fun k hk=>.inl hk)).trans (Keeps.of_below (S:=OwnD q vb vt (.slice (some ⟨g,0,none⟩) I.parts.length cap) ve) hV) (fun k hk=>.inl hk)
       exact (hT.under hV).after (fun k hk=>.inl (HZ.out.1 k hk)) (fun k hk=>hk.elim (fun h=>.inl (HZ.out.2 k h)) (fun h=>.inr (by have h1:=HBC.out.size;have h2:=HBA.out.size;omega))) ⟨hk10.os,hk10.tape,hk10.output,hk10.size,fun k hk hS=>hk10.block k hk (fun ho=>hS (HZ.out.1 k ho))⟩
      clear hok2
      rw [h0]
      go_wp2_with fail
      clear b0 b2 b3 b4 b5 b6 b7
      have hgx1:¬ x=g:=HGX.out
      have hgx2:¬ g=x:=fun e=>HGX.out e.symm
      go_region_held3 (fun V=>V.cell? ⟨q,3,none⟩=some (.slice (some ⟨g,0,none⟩) I.parts.length cap)∧V.cell? ⟨x,1,none⟩=some (.int .i64 ra)∧V.cell? ⟨y2,0,none⟩=some (.int .i64 n.1.id)∧V.cell? ⟨y2,1,none⟩=some (.int .i64 n.1.leader)∧V.cell? ⟨y2,2,none⟩=some (.int .i64 n.1.epoch)∧V.cell? ⟨y2,3,none⟩=some (.int .i64 n.1.ver)∧V.cell? ⟨y2,4,none⟩=some (.slice u1 n.1.isr.length z1)∧V.cell? ⟨y2,5,none⟩=some (.slice u2 n.1.reps.length z2)∧V.cell? ⟨y2,6,none⟩=some (.slice u3 n.1.add.length z3)∧V.cell? ⟨y2,7,none⟩=some (.slice u4 n.1.rem.length z4)∧V.cell? ⟨y2,8,none⟩=some (.int .i64 n.1.min)) (go_keep) (fail)
      all_goals
       go_wp2_with fail
       go_ret2
       exact ⟨by rw [HF.out,h0];rfl,by first | exact (HEND.out _ (Below.refl _ _).drew).1 | exact (HEND.out _ (below_drewN (Below.refl _ _) _)).1⟩
     ·have hz0:n.1.ver=0:=by rw [HNN.out] at h0 ⊢;rw [turn_zero _ _ _ h0];rfl
      have HTI:Hid (takeI I.parts n=I.parts):=by show _=_;unfold takeI;rw [if_neg h0]
      rw [HTI.out] at HF
      have HEND:Hid (DAfter Z w W4 q I):=HIMG.out.after (HBA.out.trans ((HBC.out.trans (HBL2.out.mono HBC.out.size)).mono HBA.out.size))
      have h0':(n.2 == 0)=false:=by simp [h0]
      have HZ0:=hid hz0
      clear hz0 m0' m1' m2' m3' m4' m5' m6' m7' m8' q3 b0 b1 b2 b3 b4 b5 b6 b7 r0 r1 r2 r3 r4 r5 r6 r7 r8 f0 f1 f2 f3 f4 f5 f6 f7 f8
      rw [HZ0.out] at HF
      clear HPM2 HIN2 HYC HNN HTI HZ0
      generalize n.2=n2 at *
      go_wp2_with fail
      go_ret2
      exact ⟨by rw [HF.out];rfl,by rw [HF.out];exact HEND.out⟩
end Go.Proofs.YtcffomhcmilcpaaGreat
