/- The document's topic. -/
import Derived.Test.YtcffomhcmilcpaaGreatC45
import Derived.Test.YtcffomhcmilcpaaGreatC40
set_option maxRecDepth 100000
set_option maxHeartbeats 20000000
set_option linter.unusedVariables false
set_option linter.unusedSimpArgs false
namespace Go.Proofs.YtcffomhcmilcpaaGreat
open Go.RowKit Go.Maps
theorem rtopic_any {w:World} {Z:Nat→Prop} {q:Nat} {I:Im} (hi:DImg w Z q I) {v:Value} {r:Rc} (hr:RecM w v r) (hsum:sumT I.tops=(I.parts.length:Int)):Calls Tryz.prog 35 #[.pointer (some ⟨q,0,none⟩),v] w fun e w'=>e=.returned (.tuple #[.int .i64 (topicI I r).2.1,.int .i64 (topicI I r).2.2])∧DAfter Z w w' q (topicI I r).1:=by
 obtain ⟨L,vb,vt,vp,ve,ps,h,hz4,hz5,hz6⟩:=hi
 have HIMG:Hid (DImg w Z q I):=⟨L,vb,vt,vp,ve,ps,h,hz4,hz5,hz6⟩
 have HZ:=hid (And.intro hz4 hz5)
 obtain ⟨⟨lv,rfl,hil⟩,ok,hname⟩:=hr
 obtain ⟨⟨la,lc,rfl,_⟩,_⟩:=hil
 obtain ⟨rk,ra,rb,rc,rd,rn,rt,rl⟩:=r
 simp only at ok hname ⊢
 have oka:=ok.a
 have okb:=ok.b
 have okc:=ok.c
 simp only at oka okb okc
 have hbA:Below w.heap.size w (w.alloc (.cells (RV rk ra rb rc rd rn rt la rl.length lc) 34)):=(Below.refl _ _).alloc (Nat.le_refl _) _
 have HBA:=hid hbA
 have HI:=hid (h.under hbA)
 have hB:=heap_alloc_new w (.cells (RV rk ra rb rc rd rn rt la rl.length lc) 34)
 have hqlt:q<w.heap.size:=h.lt (.inl rfl)
 have HOW:Hid (∀ k,OwnD q vb vt vp ve k→k<w.heap.size):=fun k hk=>h.lt hk
 have hWs:(w.alloc (.cells (RV rk ra rb rc rd rn rt la rl.length lc) 34)).heap.size=w.heap.size+1:=by simp
 have a1:=cell_blk hB 1 _ rfl
 have a2:=cell_blk hB 2 _ rfl
 have a3:=cell_blk hB 3 _ rfl
 have a5:=cell_blk hB 5 _ rfl
 have HBX:=hid hB
 have HIS:Hid (∀ w',Below (w.alloc (.cells (RV rk ra rb rc rd rn rt la rl.length lc) 34)).heap.size (w.alloc (.cells (RV rk ra rb rc rd rn rt la rl.length lc) 34)) w'→DAfter Z w w' q I):=fun w' hb=>HIMG.out.after (HBA.out.trans (hb.mono HBA.out.size))
 clear hbA hB h hz4 hz5 hz6 ok
 have HNM:=hid (fun V=>rname_any rn V (by exact hname))
 have HUP:=hid (fun V hV=>rup_any (HI.out.under (w1:=V) hV))
 have HF:Hid (topicI I ⟨rk,ra,rb,rc,rd,rn,rt,rl⟩=if !nameB rn || !upB ra 16 || !upB rb 5 || !upB rc rb then (I,0,1) else if hasT I.tops rn then (I,0,9) else if 16<(I.parts.length:Int)+ra∨((upL I.brs).length:Int)<rb then (I,0,3) else ({ I with tops:=I.tops++[⟨rn,(I.parts.length:Int)+1,ra⟩],parts:=I.parts++moreP I.parts.length (upL I.brs) rb.toNat rc ra.toNat },(I.parts.length:Int)+1,0)):=rfl
 generalize topicI I ⟨rk,ra,rb,rc,rd,rn,rt,rl⟩=R at *
 unfold I64 at oka okb okc
 obtain ⟨ot,ct,hvt,_,_,_,hatt⟩:=row_shape HI.out.tops
 subst hvt
 obtain ⟨oa,cap,hvp,_,_,_,hat⟩:=row_shape HI.out.parts
 have hpl:=HI.out.plen
 have hf16:=HI.out.ok.few
 have htf:=HI.out.ok.topsFew
 rw [← hpl] at hvp hat
 subst hvp
 have HPLN:=hid hpl
 clear hpl
 have c2:=HI.out.c2
 have c3:=HI.out.c3
 go_enter Tryz.func35,Tryz.ntmps35
 go_upto_region 1 with fail
 generalize w.alloc (.cells (RV rk ra rb rc rd rn rt la rl.length lc) 34)=W at *
 obtain ⟨x,hx⟩:∃ x,x=w.heap.size:=⟨_,rfl⟩
 rw [← hx] at a1 a2 a3 a5 hWs hqlt HBX HOW ⊢
 have HXW:=hid hx
 clear hx
 have hnm:=HNM.out W
 obtain ⟨NB,hNB⟩:∃ NB,nameB rn=NB:=⟨_,rfl⟩
 rw [hNB] at hnm HF
 have HNB:=hid hNB
 clear HNM hNB
 obtain ⟨B,hB⟩:∃ B,(!NB || !upB ra 16 || !upB rb 5 || !upB rc rb)=B:=⟨_,rfl⟩
 go_upto_region 2 with fail
 refine hnm.mono ?_
 rintro e w9 ⟨rfl,rfl⟩
 go_upto_region 2 with fail
 go_cut [49] from 16 to 49 (fun s49 V=>s49=.bool B∧V=W)
 case first =>
  as_aux_lemma =>
   cases NB with
   | false =>
    have hBt:B=true:=by rw [← hB];rfl
    subst hBt
    go_wp2_with fail
    go_meet
    case rel=>exact ⟨rfl,rfl⟩
   | true =>
    by_cases k0:ra<1
    ·have hBt:B=true:=by rw [← hB];simp [upB];omega
     subst hBt
     go_wp2_with fail
     go_meet
     case rel=>exact ⟨rfl,rfl⟩
    by_cases k1:(16:Int)<ra
    ·have hBt:B=true:=by rw [← hB];simp [upB];omega
     subst hBt
     go_wp2_with fail
     go_meet
     case rel=>exact ⟨rfl,rfl⟩
    by_cases k2:rb<1
    ·have hBt:B=true:=by rw [← hB];simp [upB];omega
     subst hBt
     go_wp2_with fail
     go_meet
     case rel=>exact ⟨rfl,rfl⟩
    by_cases k3:(5:Int)<rb
    ·have hBt:B=true:=by rw [← hB];simp [upB];omega
     subst hBt
     go_wp2_with fail
     go_meet
     case rel=>exact ⟨rfl,rfl⟩
    by_cases k4:rc<1
    ·have hBt:B=true:=by rw [← hB];simp [upB];omega
     subst hBt
     go_wp2_with fail
     go_meet
     case rel=>exact ⟨rfl,rfl⟩
    by_cases k5:rb<rc
    ·have hBt:B=true:=by rw [← hB];simp [upB];omega
     subst hBt
     go_wp2_with fail
     go_meet
     case rel=>exact ⟨rfl,rfl⟩
    have hBt:B=false:=by rw [← hB];simp [upB];omega
    subst hBt
    go_wp2_with fail
    go_meet
    case rel=>exact ⟨rfl,rfl⟩
 case rest =>
  obtain ⟨rfl,rfl⟩:=hcut
  rw [hB] at HF
  cases B with
  | true =>
   rw [if_pos rfl] at HF
   have HS1:=hid (HIS.out _ (Below.refl _ _))
   go_wp2_with fail
   go_ret2
   exact ⟨by rw [HF.out];rfl,by rw [HF.out];exact HS1.out⟩
  | false =>
   rw [if_neg (by simp)] at HF
   have hB2:NB=true∧(1≤ra∧ra≤16)∧(1≤rb∧rb≤5)∧(1≤rc∧rc≤rb):=by
    simp only [Bool.or_eq_false_iff,Bool.not_eq_false'] at hB
    exact ⟨hB.1.1.1,upB_iff.1 hB.1.1.2,upB_iff.1 hB.1.2,upB_iff.1 hB.2⟩
   obtain ⟨rfl,⟨q1a,q1b⟩,⟨q2a,q2b⟩,⟨q3a,q3b⟩⟩:=hB2
   clear hB hnm
   generalize wc=W at *
   go_wp2_with fail
   go_loopg [7] I.tops.length (fun kx s7 wr=>∃ k:Nat,k≤I.tops.length∧I.tops.length - k≤kx∧s7=.int .i64 (k:Int)∧Hid ((I.tops.take k).any (fun t=>sameN t.name rn)=false∧Below W.heap.size W wr))
   case atStart=>exact ⟨0,Nat.zero_le _,by omega,rfl,by simp,Below.refl _ _⟩
   case round =>
    obtain ⟨k,hk,hkx,rfl,HK⟩:=hrel
    have ft:=kept_cell HK.out.2 c2
    have f5:=kept_cell HK.out.2 a5
    by_cases hlt:k<I.tops.length
    ·obtain ⟨g,rfl⟩:=hatt (by omega)
     obtain ⟨k0,_,_⟩:=(HI.out.under HK.out.2).tp k _ (List.getElem?_eq_getElem hlt)
     have HT:Hid ((I.tops.take (k+1)).any (fun t=>sameN t.name rn)=((I.tops.take k).any (fun t=>sameN t.name rn) || sameN I.tops[k].name rn)):=by
      show _=_
      rw [List.take_succ_eq_append_getElem hlt,List.any_append]
      simp
     have HA:Hid (sameN I.tops[k].name rn=true→hasT I.tops rn=true):=fun h=>by
      unfold hasT
      rw [List.any_eq_true]
      exact ⟨I.tops[k],by simp,h⟩
     have hlt':(k:Int)<(I.tops.length:Int):=by omega
     generalize I.tops[k]=t at *
     have HSN:Hid (sameN t.name rn=(t.name.toList == rn.toList)):=rfl
     generalize sameN t.name rn=S at *
     cases S with
     | true =>
      have hsn:(t.name.toList == rn.toList)=true:=HSN.out.symm
      rw [if_pos (HA.out rfl)] at HF
      go_wp2_with fail
      go_cut [69] from 59 to 69 (fun s69 V=>s69=.bool true∧Hid (Below wr.heap.size wr V))
      case first =>
       go_quiet (fail)
       all_goals
        go_wp2_with fail
        go_meet
        case rel=>exact ⟨by simp [hsn],below_drewN (Below.refl _ _) _⟩
      case rest =>
       obtain ⟨rfl,HBC⟩:=hcut
       have HS2:=hid (HIS.out _ (HK.out.2.trans (HBC.out.mono HK.out.2.size)))
       go_wp2_with fail
       go_ret2
       exact ⟨by rw [HF.out];rfl,by rw [HF.out];exact HS2.out⟩
     | false =>
      have hsn:(t.name.toList == rn.toList)=false:=HSN.out.symm
      go_wp2_with fail
      go_cut [69] from 59 to 69 (fun s69 V=>s69=.bool false∧Hid (Below wr.heap.size wr V))
      case first =>
       go_quiet (fail)
       all_goals
        go_wp2_with fail
        go_meet
        case rel=>exact ⟨by simp [hsn],below_drewN (Below.refl _ _) _⟩
      case rest =>
       obtain ⟨rfl,HBC⟩:=hcut
       have HK2:Hid ((I.tops.take (k+1)).any (fun t=>sameN t.name rn)=false∧Below W.heap.size W wc):=⟨by rw [HT.out,HK.out.1];rfl,HK.out.2.trans (HBC.out.mono HK.out.2.size)⟩
       go_wp2_with fail
       go_roundg (I.tops.length - (k+1))
       case measure=>omega
       case rel=>exact ⟨k+1,by omega,Nat.le_refl _,by go_num,HK2.out⟩
    ·have hlt':¬ (k:Int)<(I.tops.length:Int):=by omega
     have hN':hasT I.tops rn=false:=by
      have hN:=HK.out.1
      rw [List.take_of_length_le (by omega)] at hN
      exact hN
     rw [if_neg (by rw [hN'];simp)] at HF
     clear hN'
     have HIr:=hid (HI.out.under HK.out.2)
     have HBr:=hid HK.out.2
     have f1:=kept_cell HK.out.2 a1
     have f2:=kept_cell HK.out.2 a2
     have f3:=kept_cell HK.out.2 a3
     have hup:=HUP.out wr HK.out.2
     have hsW:=HK.out.2.size
     clear HK a1 a2 a3 a5 c2 c3
     go_upto_region 10 with fail
     refine hup.mono ?_
     rintro e W1 ⟨uv,rfl,hil,hin,hb1⟩
     obtain ⟨ua,uc,rfl,_⟩:=hil.shape
     have HIL:=hid hil
     have HIN:=hid hin
     have HB1:Hid (Below W.heap.size W W1):=HBr.out.trans (hb1.mono HBr.out.size)
     have HI1:=hid (HIr.out.under hb1)
     have e1:=kept_cell hb1 f1
     have e2:=kept_cell hb1 f2
     have e3:=kept_cell hb1 f3
     have e5:=kept_cell hb1 f5
     have g3:=HI1.out.c3
     have hs1:=hb1.size
     clear hil hin hb1 ft f1 f2 f3 f5 HIr HBr hup
     obtain ⟨C,hC⟩:∃ C,decide (16<(I.parts.length:Int)+ra∨((upL I.brs).length:Int)<rb)=C:=⟨_,rfl⟩
     have hwa:IntKind.i64.wrap ((I.parts.length:Int)+ra)=(I.parts.length:Int)+ra:=IntWalk.i64_in _ ⟨by omega,by omega⟩
     go_upto_region 10 with fail
     go_cut [87] from 72 to 87 (fun s87 V=>s87=.bool C∧Hid (Below W1.heap.size W1 V))
     case first =>
      as_aux_lemma =>
      by_cases k1:16<(I.parts.length:Int)+ra
      ·have hCt:C=true:=by rw [← hC];exact decide_eq_true (.inl k1)
       subst hCt
       go_quiet (fail)
       all_goals
        go_wp2_with fail
        go_meet
        case rel=>exact ⟨rfl,below_drewN (Below.refl _ _) _⟩
      ·have k1':decide (16<(I.parts.length:Int)+ra)=false:=decide_eq_false k1
       by_cases k2:((upL I.brs).length:Int)<rb
       ·have hCt:C=true:=by rw [← hC];exact decide_eq_true (.inr k2)
        subst hCt
        go_quiet (fail)
        all_goals
         go_wp2_with fail
         go_meet
         case rel=>exact ⟨rfl,below_drewN (Below.refl _ _) _⟩
       ·have hCt:C=false:=by rw [← hC];exact decide_eq_false (fun hh=>hh.elim k1 k2)
        subst hCt
        go_quiet (fail)
        all_goals
         go_wp2_with fail
         go_meet
         case rel=>exact ⟨rfl,below_drewN (Below.refl _ _) _⟩
     case rest =>
      obtain ⟨rfl,HBC⟩:=hcut
      cases C with
      | true =>
       rw [if_pos (of_decide_eq_true hC)] at HF
       have HS3:=hid (HIS.out wc (HB1.out.trans (HBC.out.mono HB1.out.size)))
       go_wp2_with fail
       go_ret2
       exact ⟨by rw [HF.out];rfl,by rw [HF.out];exact HS3.out⟩
      | false =>
       have hC2:=of_decide_eq_false hC
       rw [if_neg hC2] at HF
       have hC3:(I.parts.length:Int)+ra≤16∧rb≤((upL I.brs).length:Int):=by omega
       obtain ⟨k1,k2⟩:=hC3
       clear hC hC2 hwa
       obtain ⟨na,hna⟩:∃ na:Nat,ra=(na:Int):=⟨ra.toNat,by omega⟩
       obtain ⟨nb,hnb⟩:∃ nb:Nat,rb=(nb:Int):=⟨rb.toNat,by omega⟩
       subst hna
       subst hnb
       have HB2:Hid (Below W.heap.size W wc):=HB1.out.trans (HBC.out.mono HB1.out.size)
       have HI2:=hid (HI1.out.under HBC.out)
       have HIL2:=hid (HIL.out.under HBC.out)
       have hxW:x<W.heap.size:=by omega
       have HX2:=hid ((HB2.out.block x hxW).trans HBX.out)
       have m3:=HI2.out.c3
       have hs2:=HBC.out.size
       have HIN2:Hid (In (fun k=>x≤k∧k<wc.heap.size) (.slice ua (upL I.brs).length uc) (upL I.brs)):=fun hn bb off n c e=>⟨by have:=HIN.out hn bb off n c e;omega,HIL2.out.old hn bb off n c e⟩
       clear HI1 HIL HIN HBC HB1 e1 e2 e3 e5 g3
       generalize wc=W2 at *
       have hw8:IntKind.i64.wrap ((I.parts.length:Int)+1)=(I.parts.length:Int)+1:=IntWalk.i64_in _ ⟨by omega,by omega⟩
       have HUPO:=hid (upL_ok HI2.out.ok)
       have hu7:=ids_len HUPO.out
       obtain ⟨vp,hvp⟩:∃ vp,vp=Value.slice oa I.parts.length cap:=⟨_,rfl⟩
       have hpl:=HPLN.out
       have HOW2:Hid (∀ k,OwnD q vb (.slice ot I.tops.length ct) (.slice oa ps.length cap) ve k→k<x):=fun k hk=>HOW.out k (by rw [hpl];exact hk)
       rw [hpl] at HI2
       obtain ⟨ua',uc',hu',_,_,_,huat⟩:=HIL2.out.shape
       simp only [Value.slice.injEq] at hu'
       obtain ⟨rfl,-,rfl⟩:=hu'
       obtain ⟨ub,uo,rfl,hub,huc⟩:=huat (by intro e;rw [e] at k2;simp at k2;omega)
       have hubx:x≤ub:=(HIN2.out (by intro e;rw [e] at k2;simp at k2;omega) ub uo _ _ rfl).1
       have HUC:=hid huc
       have HCL:Hid (∀ wr,Keeps (OwnD q vb (.slice ot I.tops.length ct) (.slice oa ps.length cap) ve) W2 wr→∀ k,x≤k→k<W2.heap.size→wr.heap[k]?=W2.heap[k]?):=fun wr hk k h1 h2=>hk.block k h2 (fun ho=>by have:=HOW2.out k ho;omega)
       have HLK:=hid HUPO.out
       clear huc huat hpl
       go_wp2_with fail
       go_loopg [10] na (fun kx s10 wr=>∃ k:Nat,k≤na∧na - k≤kx∧s10=.int .i64 (k:Int)∧Hid (TopD W2 wr L q vb (.slice ot I.tops.length ct) (.slice oa ps.length cap) ve I (upL I.brs) nb rc k))
       case atStart=>exact ⟨0,Nat.zero_le _,by omega,rfl,TopD.start HI2.out _ _ _⟩
       case round =>
        obtain ⟨k,hk,hkx,rfl,HK⟩:=hrel
        have hx2:x<W2.heap.size:=(Array.getElem?_eq_some_iff.1 HX2.out).1
        have HX7:=hid ((HCL.out wr HK.out.keeps x (Nat.le_refl _) hx2).trans HX2.out)
        have r1:=cell_blk HX7.out 1 _ rfl
        have r2:=cell_blk HX7.out 2 _ rfl
        by_cases hlt:k<na
        ·obtain ⟨⟨L1,oa1,cap1,ps1,j1,j2,j3⟩,jk⟩:=HK.out
         have hlt':(k:Int)<(na:Int):=by omega
         have hsr:=jk.size
         have HJ1:=hid j1
         have HUR:Hid (∀ j (hj:j<(upL I.brs).length),wr.cell? ⟨ub,uo+j,none⟩=some (.int .i64 (upL I.brs)[j])):=fun j hj=>(World.cell?_of_block (a:=⟨ub,uo+j,none⟩) (HCL.out wr jk ub hubx hub)).trans (HUC.out j hj)
         have hxo:¬ OwnD q vb (.slice ot I.tops.length ct) (.slice oa1 ps1.length cap1) ve x:=fun ho=>by
          rcases ho with e | e | e | e | e
          ·omega
          ·have:=HOW2.out x (.inr (.inl e));omega
          ·have:=HOW2.out x (.inr (.inr (.inl e)));omega
          ·rcases j3 x e with e | e
           ·have:=HOW2.out x (.inr (.inr (.inr (.inl e))));omega
           ·omega
          ·have:=HOW2.out x (.inr (.inr (.inr (.inr e))));omega
         have hjl:(I.parts++moreP I.parts.length (upL I.brs) nb rc k).length=I.parts.length+k:=by rw [List.length_append,moreP_len]
         have hok:ImOk { ({ I with parts:=I.parts++moreP I.parts.length (upL I.brs) nb rc k }:Im) with parts:=(I.parts++moreP I.parts.length (upL I.brs) nb rc k)++[newP ((I.parts.length:Int)+1+(k:Int)) (roundL (upL I.brs) k nb) rc] }:=j1.ok.push (newP_right HUPO.out (by omega) (by omega) (by omega) (by omega)) (by show (I.parts.length:Int)+1+(k:Int)=_;simp only [hjl];push_cast;omega) (by simp only [hjl];omega)
         have HOK7:=hid hok
         have HXO:=hid hxo
         have HNX:Hid (∀ (g' c':Nat) (V:World) (L2:Nat→Prop) (ps2:List (Value × Pt)),DC V L2 q vb (.slice ot I.tops.length ct) (.slice (some ⟨g',0,none⟩) (ps1.length+1) c') ve ps2 { ({ I with parts:=I.parts++moreP I.parts.length (upL I.brs) nb rc k }:Im) with parts:=(I.parts++moreP I.parts.length (upL I.brs) nb rc k)++[newP ((I.parts.length:Int)+1+(k:Int)) (roundL (upL I.brs) k nb) rc] }→(∀ j,L2 j→L1 j∨wr.heap.size≤j)→((Value.slice oa1 ps1.length cap1).ownBlock=some g'∨wr.heap.size≤g')→Keeps (OwnD q vb (.slice ot I.tops.length ct) (.slice oa1 ps1.length cap1) ve) wr V→TopD W2 V L q vb (.slice ot I.tops.length ct) (.slice oa ps.length cap) ve I (upL I.brs) nb rc (k+1)):=fun g' c' V L2 ps2 i1 i2 i3 i4=>TopD.next jk j2 j3 i1 i2 i3 i4
         clear j1 j2 j3 jk hok hxo hjl HK
         have hu0:0<(upL I.brs).length:=by omega
         generalize hUU:upL I.brs=U at *
         have HMD:Hid (∀ m,m<nb→∃ j:Nat,∃ hj:j<U.length,(k+m) % U.length=j∧((k:Int)+(m:Int)).tmod (U.length:Int)=(j:Int)∧((k:Int)+(m:Int)) % (U.length:Int)=(j:Int)∧roundL U k (m+1)=roundL U k m++[U[j]]):=fun m hm=>by
          have e:((k:Int)+(m:Int)) % (U.length:Int)=(((k+m) % U.length:Nat):Int):=by push_cast;rfl
          refine ⟨(k+m) % U.length,Nat.mod_lt _ hu0,rfl,by rw [Int.tmod_eq_emod_of_nonneg (by omega)];exact e,e,?_⟩
          unfold roundL
          rw [List.range_succ,List.map_append]
          simp [Nat.mod_lt _ hu0]
         obtain ⟨i0,hi0,hz0,hz1,hz2⟩:=info3
         generalize wr=W3 at *
         go_wp2_with fail
         go_loopg [11,12] nb (fun kx s11 s12 wr=>∃ m:Nat,m≤nb∧nb - m≤kx∧s12=.int .i64 (m:Int)∧Hid (wr.ownsRow W3.heap.size 3 1 s11 m (vals (roundL U k m))∧Below W3.heap.size W3 wr)∧∃ a n c,s11=.slice a n c)
         case atStart=>exact ⟨0,Nat.zero_le _,by omega,rfl,⟨World.ownsRow_nil _ _ _ _,Below.refl _ _⟩,⟨_,_,_,rfl⟩⟩
         case round =>
          obtain ⟨m,hm,hmx,rfl,HR,⟨a1,n1,c1,rfl⟩⟩:=hrel
          have HJi:=hid (HJ1.out.under HR.out.2)
          have HXi:=hid ((HR.out.2.block x (Array.getElem?_eq_some_iff.1 HX7.out).1).trans HX7.out)
          have t2:=cell_blk HXi.out 2 _ rfl
          have hbsi:=HR.out.2.size
          by_cases hlm:m<nb
          ·have hlm':(m:Int)<(nb:Int):=by omega
           obtain ⟨j,hj,ej,u1,u2,HRS⟩:=HMD.out m hlm
           have hcj:=kept_cell HR.out.2 (HUR.out j hj)
           have HRS2:=hid HRS
           clear HRS ej
           generalize U[j]=y at *
           have g2:(j:Int)<(U.length:Int):=by omega
           have g3:IntKind.i64.wrap ((k:Int)+(m:Int))=(k:Int)+(m:Int):=IntWalk.i64_in _ ⟨by omega,by omega⟩
           have g4:(U.length:Int)≠0:=by omega
           have hlr:(roundL U k m).length=m:=by simp [roundL]
           have HX1:Hid ((wr.alloc (.cells #[.int .i64 y] 3)).ownsRow W3.heap.size 3 1 (.slice a1 n1 c1) m (vals (roundL U k m))):=HR.out.1.alloc _
           have HN1:Hid (∀ j u,([.int .i64 y]:List Value)[j]?=some u→(wr.alloc (.cells #[.int .i64 y] 3)).cell? ((⟨wr.heap.size,0,none⟩:Addr).add j)=some u):=fun j u hu=>by
            cases j with
            | zero=>simp at hu;subst hu;rw [add_at];exact cell_blk (heap_alloc_new _ _) 0 _ rfl
            | succ j=>simp at hu
           have HO1:Hid (∀ u∈([.int .i64 y]:List Value),u.oneCell'=true):=fun u hu=>by simp at hu;subst hu;rfl
           go_wp2_with (at_builtin;go_loud (refine wpList_append_own_at _ rfl _ _ 23 rfl W3.heap.size 3 i0 _ 1 8 Tryz.underlying23 hi0 hz0 hz1 hz2 rfl (by decide) _ m _ rfl HX1.out ⟨wr.heap.size,0,none⟩ 1 1 [.int .i64 y] rfl rfl HN1.out HO1.out (by unfold maxLen;omega) (by omega) (by simp;omega) ?_);intro v2 w2 hown2 hg2 _ hat2)
           have hsh:∃ a n c,v2=.slice a n c:=by
            rcases hown2.2 with ⟨e,_⟩ | ⟨g,cp,cur,e,_⟩
            ·exact ⟨_,_,_,e⟩
            ·exact ⟨_,_,_,e⟩
           obtain ⟨a2,n2,c2,rfl⟩:=hsh
           have HB2:Hid (Below W3.heap.size W3 w2):=(HR.out.2.alloc hbsi _).grown hg2 (by have:=(HR.out.2.alloc hbsi (.cells #[.int .i64 y] 3)).size;exact this) (fun j hj=>(World.ownsRow.lt HX1.out j hj).1)
           have HW2:=hid hown2
           clear hown2 hg2 hat2
           go_wp2_with fail
           go_roundg (nb - (m+1))
           case measure=>omega
           case rel=>exact ⟨m+1,by omega,Nat.le_refl _,by go_num,⟨by rw [HRS2.out];simp only [vals,List.map_append,List.map_cons,List.map_nil];exact HW2.out,HB2.out⟩,⟨_,_,_,rfl⟩⟩
          ·have hlm':¬ (m:Int)<(nb:Int):=by omega
           have hmn:m=nb:=by omega
           subst hmn
           have hlr:(roundL U k m).length=m:=by simp [roundL]
           have hrk:∀ x∈roundL U k m,I64 x:=fun x hx=>by
            have:=HLK.out.2 x (roundL_mem hu0 hx)
            unfold I64;omega
           have hown:wr.ownsRow W3.heap.size 3 1 (.slice a1 n1 c1) (roundL U k m).length (vals (roundL U k m)):=by rw [hlr];exact HR.out.1
           have hILr:IL wr (.slice a1 n1 c1) (roundL U k m):=IL.of hown hrk (by omega)
           have hINr:In (fun b=>W3.heap.size≤b) (.slice a1 n1 c1) (roundL U k m):=in_own hown
           have hne:roundL U k m≠[]:=by intro e;rw [e] at hlr;simp at hlr;omega
           have hhead:∀ (l:List Int) (h:0<l.length),headL l=l[0]:=fun l h=>by cases l with | nil=>simp at h | cons a r=>rfl
           obtain ⟨la1,lc1,he,_,_,_,hlat⟩:=hILr.shape
           simp only [Value.slice.injEq] at he
           obtain ⟨rfl,rfl,rfl⟩:=he
           obtain ⟨lb,lo,rfl,hlb,hlcs⟩:=hlat hne
           have hlbW:=hINr hne lb lo _ _ rfl
           have hlc0:=hlcs 0 (by omega)
           rw [Nat.add_zero,← hhead _ (by omega)] at hlc0
           have hhd:I64 (headL (roundL U k m)):=by
            rw [hhead _ (by omega)]
            exact hrk _ (by simp)
           have hlo:¬ OwnD q vb (.slice ot I.tops.length ct) (.slice oa1 ps1.length cap1) ve lb:=fun ho=>by have:=HJ1.out.lt ho;omega
           have HTN:Hid (∀ (g' c':Nat) (V:World) (L2:Nat→Prop) (ps2:List (Value × Pt)),DC V L2 q vb (.slice ot I.tops.length ct) (.slice (some ⟨g',0,none⟩) (ps1.length+1) c') ve ps2 { ({ I with parts:=I.parts++moreP I.parts.length U m rc k }:Im) with parts:=(I.parts++moreP I.parts.length U m rc k)++[newP ((I.parts.length:Int)+1+(k:Int)) (roundL U k m) rc] }→(∀ j,L2 j→L1 j∨j=lb∨wr.heap.size≤j)→((Value.slice oa1 ps1.length cap1).ownBlock=some g'∨wr.heap.size≤g')→Keeps (OwnD q vb (.slice ot I.tops.length ct) (.slice oa1 ps1.length cap1) ve) wr V→TopD W2 V L q vb (.slice ot I.tops.length ct) (.slice oa ps.length cap) ve I U m rc (k+1)):=fun g' c' V L2 ps2 i1 i2 i3 i4=>HNX.out g' c' V L2 ps2 i1 (fun j hj=>(i2 j hj).imp (fun e=>e) (fun e=>by rcases e with e | e <;> omega)) (i3.imp (fun e=>e) (fun e=>by omega)) ((Keeps.of_below HR.out.2).trans i4 (fun x hx=>.inl hx))
           clear HR HNX
           go_wp2_with fail
           refine region21 _ HJi.out x rk (na:Int) (m:Int) rc rd rn rt la rl.length lc HXi.out HXO.out lb lo _ (roundL U k m) hILr (by omega) (by omega) hlo hlc0 hhd ((I.parts.length:Int)+1) (k:Int) (IntWalk.i64_in _ ⟨by omega,by omega⟩) (by unfold I64;omega) (by unfold I64;omega) HOK7.out rfl rfl rfl rfl (by rw [hlr];rfl) rfl ?_
           intro g' c' g2' c2' B1 V L2 ps2 i1 i2 i3 i4
           simp only [Act.put,List.setIfInBounds_toArray,List.set_cons_zero,List.set_cons_succ]
           have HT:=hid (HTN.out g' c' V L2 ps2 i1 i2 i3 i4)
           clear i1 i2 i3 i4
           go_wp2_with fail
           go_roundg (na - (k+1))
           case measure=>omega
           case rel=>exact ⟨k+1,by omega,Nat.le_refl _,by go_num,HT.out⟩
        ·have hlt':¬ (k:Int)<(na:Int):=by omega
         have hkn:k=na:=by omega
         subst hkn
         obtain ⟨⟨L1,oa1,cap1,ps1,j1,j2,j3⟩,jk⟩:=HK.out
         have hsr:=jk.size
         have hxo:¬ OwnD q vb (.slice ot I.tops.length ct) (.slice oa1 ps1.length cap1) ve x:=fun ho=>by
          rcases ho with e | e | e | e | e
          ·omega
          ·have:=HOW2.out x (.inr (.inl e));omega
          ·have:=HOW2.out x (.inr (.inr (.inl e)));omega
          ·rcases j3 x e with e | e
           ·have:=HOW2.out x (.inr (.inr (.inr (.inl e))));omega
           ·omega
          ·have:=HOW2.out x (.inr (.inr (.inr (.inr e))));omega
         have hok:ImOk { ({ I with parts:=I.parts++moreP I.parts.length (upL I.brs) nb rc k }:Im) with tops:=I.tops++[(⟨rn,(I.parts.length:Int)+1,(k:Int)⟩:Tp)] }:=by
          have ik:=j1.ok
          have hnm:nameB rn=true:=HNB.out
          unfold nameB at hnm
          rw [Bool.and_eq_true] at hnm
          have hn32:=upB_iff.1 hnm.1
          refine ⟨ik.keys,ik.brs,ik.parts,ik.few,?_,fun t ht=>?_,fun t ht=>?_,ik.eps,ik.epv,ik.app⟩
          ·show sumT (I.tops++_)≤16
           rw [sumT_append,hsum]
           simp only [sumT]
           omega
          ·rcases List.mem_append.1 ht with ht | ht
           ·exact ik.name t ht
           ·simp at ht;subst ht;simp only;omega
          ·rcases List.mem_append.1 ht with ht | ht
           ·exact ik.nums t ht
           ·simp at ht;subst ht;simp only;omega
         have HJ1:=hid j1
         have HOK7:=hid hok
         have HXO:=hid hxo
         have HE:Hid (∀ (g' c':Nat) (V:World),DC V L1 q vb (.slice (some ⟨g',0,none⟩) (I.tops.length+1) c') (.slice oa1 ps1.length cap1) ve ps1 { ({ I with parts:=I.parts++moreP I.parts.length (upL I.brs) nb rc k }:Im) with tops:=I.tops++[(⟨rn,(I.parts.length:Int)+1,(k:Int)⟩:Tp)] }→((Value.slice ot I.tops.length ct).ownBlock=some g'∨wr.heap.size≤g')→Keeps (OwnD q vb (.slice ot I.tops.length ct) (.slice oa1 ps1.length cap1) ve) wr V→DAfter Z w V q R.1):=fun g' c' V i1 i2 i3=>by
          have hxw:=HXW.out
          have hz:=HZ.out.1
          have hb:=HBA.out.trans (HB2.out.mono HBA.out.size)
          have hbs:=hb.size
          rw [HPLN.out] at hz
          rw [HF.out]
          simp only [Int.toNat_natCast]
          have hown1:∀ j,OwnD q vb (.slice ot I.tops.length ct) (.slice oa1 ps1.length cap1) ve j→OwnD q vb (.slice ot I.tops.length ct) (.slice oa ps.length cap) ve j∨W2.heap.size≤j:=fun j hj=>by
           rcases hj with e | e | e | e | e
           ·exact .inl (.inl e)
           ·exact .inl (.inr (.inl e))
           ·exact .inl (.inr (.inr (.inl e)))
           ·exact (j3 j e).imp (fun e=>.inr (.inr (.inr (.inl e)))) (fun e=>e)
           ·exact .inl (.inr (.inr (.inr (.inr e))))
          refine i1.after (fun j hj=>?_) (fun j hj=>(j2 j hj).imp (fun e=>HZ.out.2 j e) (fun e=>by omega)) (((Keeps.of_below hb).trans jk (fun j hj=>.inl (hz j hj))).trans i3 (fun j hj=>(hown1 j hj).imp (fun e=>hz j e) (fun e=>by omega)))
          rcases hj with e | e | e | e | e
          ·exact .inl (hz j (.inl e))
          ·exact .inl (hz j (.inr (.inl e)))
          ·have e2:=own_some e
           subst e2
           rcases i2 with e | e
           ·exact .inl (hz _ (.inr (.inr (.inl e))))
           ·exact .inr (by omega)
          ·rcases j3 j e with e | e
           ·exact .inl (hz j (.inr (.inr (.inr (.inl e)))))
           ·exact .inr (by omega)
          ·exact .inl (hz j (.inr (.inr (.inr (.inr e)))))
         clear j1 j2 j3 jk hok hxo HK
         go_wp2_with fail
         refine region22 (I:=({ I with parts:=I.parts++moreP I.parts.length (upL I.brs) nb rc k }:Im)) _ HJ1.out x rk (k:Int) (nb:Int) rc rd ((I.parts.length:Int)+1) rn rt la rl.length lc HX7.out HXO.out HOK7.out rfl rfl rfl rfl ?_
         intro g' c' V i1 i2 i3
         simp only [Act.put,List.setIfInBounds_toArray,List.set_cons_zero,List.set_cons_succ]
         have HE2:=hid (HE.out g' c' V i1 i2 i3)
         clear i1 i2 i3 HE
         go_wp2_with fail
         go_ret2
         exact ⟨by rw [HF.out];rfl,HE2.out⟩
end Go.Proofs.YtcffomhcmilcpaaGreat
