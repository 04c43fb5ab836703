/- A topic is made. -/
import Derived.Test.YtcffomhcmilcpaaGreatC8
import Derived.Test.YtcffomhcmilcpaaGreatC10
import Derived.Test.YtcffomhcmilcpaaGreatC4
import Derived.Test.YtcffomhcmilcpaaGreatC0
set_option maxRecDepth 100000
set_option maxHeartbeats 20000000
set_option linter.unusedVariables false
set_option linter.unusedSimpArgs false
namespace Go.Proofs.YtcffomhcmilcpaaGreat
open Go.RowKit Go.Maps
theorem ktopic_any {w:World} {Z:Nat→Prop} {q:Nat} {I:Im} (hi:Img w Z q I) {v:Value} {r:Rc} (hr:RecM w v r) (hsum:sumT I.tops=(I.parts.length:Int)):Calls Tryz.prog 71 #[.pointer (some ⟨q,0,none⟩),v] w fun e w'=>e=.returned (.tuple #[.int .i64 (topicI I r).2.1,.int .i64 (topicI I r).2.2])∧IAfter Z w w' q (topicI I r).1:=by
 obtain ⟨L,b,vt,vp,ve,ps,h,hz1,hz2,hz3⟩:=hi
 have HIMG:Hid (Img w Z q I):=⟨L,b,vt,vp,ve,ps,h,hz1,hz2,hz3⟩
 have HRM:=hid hr
 obtain ⟨⟨lv,rfl,hil⟩,ok,hname⟩:=hr
 obtain ⟨⟨la,lc,rfl,_⟩,_⟩:=hil
 obtain ⟨rk,ra,rb,rc,rd,rn,rt,rl⟩:=r
 simp only at ok hname HRM ⊢
 have oka:=ok.a
 have okb:=ok.b
 have okc:=ok.c
 simp only at oka okb okc
 have hbA:Below w.heap.size w (w.alloc (.cells (RV rk ra rb rc rd rn rt la rl.length lc) 34)):=(Below.refl _ _).alloc (Nat.le_refl _) _
 have HBA:=hid hbA
 have HI:=hid (h.under hbA)
 have HRM1:=hid (HRM.out.under hbA)
 have HIO:Hid (∀ w' J,IOut L (w.alloc (.cells (RV rk ra rb rc rd rn rt la rl.length lc) 34)) w' q b vt vp ve J→IAfter Z w w' q J):=fun w' J hJ=>hJ.after HIMG.out hz1 hz2 hbA
 have HIO2:Hid (∀ w' J,IOut2 L (w.alloc (.cells (RV rk ra rb rc rd rn rt la rl.length lc) 34)) w' q b vt vp ve J→IAfter Z w w' q J):=fun w' J hJ=>hJ.after HIMG.out hz1 hz2 hbA
 have HIS:Hid (∀ w',Below (w.alloc (.cells (RV rk ra rb rc rd rn rt la rl.length lc) 34)).heap.size (w.alloc (.cells (RV rk ra rb rc rd rn rt la rl.length lc) 34)) w'→IAfter Z w w' q I):=fun w' hb=>HIMG.out.after (hbA.trans (hb.mono hbA.size))
 have hB:=heap_alloc_new w (.cells (RV rk ra rb rc rd rn rt la rl.length lc) 34)
 have hqlt:q<w.heap.size:=h.lt (.inl rfl)
 have HOW:Hid (∀ k,Own q b vt vp ve k→k<w.heap.size):=fun k hk=>h.lt hk
 have hWs:(w.alloc (.cells (RV rk ra rb rc rd rn rt la rl.length lc) 34)).heap.size=w.heap.size+1:=by simp
 obtain ⟨a0,a1,a2,a3,a4,a5,a6,a7⟩:=cells8 hB
 have HBX:=hid hB
 clear hbA hB h hz1 hz2 hz3 ok
 unfold maxLen at hname
 have HNM:=hid (fun V=>isName_any rn V (by unfold maxLen;omega))
 have HU67:Hid (∀ V n m,(n=ra∧m=16)∨(n=rb∧m=5)∨(n=rc∧m=rb)→Calls Tryz.prog 67 #[.int .i64 n,.int .i64 m] V fun e w'=>e=.returned (.bool (upB n m))∧V=w'):=fun V n m hnm=>upTo_any n m V (by rcases hnm with ⟨rfl,_⟩ | ⟨rfl,_⟩ | ⟨rfl,_⟩ <;> assumption) (by rcases hnm with ⟨_,rfl⟩ | ⟨_,rfl⟩ | ⟨_,rfl⟩ <;> first | assumption | (unfold I64;omega))
 have HUP:=hid (up_any HI.out)
 have HF:Hid (topicI I ⟨rk,ra,rb,rc,rd,rn,rt,rl⟩=if !nameB rn || !upB ra 16 || !upB rb 5 || !upB rc rb then (I,0,1) else if hasT I.tops rn then (I,0,9) else if 16<(I.parts.length:Int)+ra∨((upL I.brs).length:Int)<rb then (I,0,3) else ({ I with tops:=I.tops++[⟨rn,(I.parts.length:Int)+1,ra⟩],parts:=I.parts++moreP I.parts.length (upL I.brs) rb.toNat rc ra.toNat },(I.parts.length:Int)+1,0)):=rfl
 generalize topicI I ⟨rk,ra,rb,rc,rd,rn,rt,rl⟩=R at *
 unfold I64 at oka okb okc
 go_enter Tryz.func71,Tryz.ntmps71
 go_upto_region 1 with fail
 generalize w.alloc (.cells (RV rk ra rb rc rd rn rt la rl.length lc) 34)=W at *
 obtain ⟨x,hx⟩:∃ x,x=w.heap.size:=⟨_,rfl⟩
 rw [← hx] at a0 a1 a2 a3 a4 a5 a6 a7 hWs hqlt HBX HOW ⊢
 have HXW:=hid hx
 clear hx
 go_wp2_with fail
 refine HUP.out.mono ?_
 rintro e W1 ⟨uv,rfl,hil,hin,hb1⟩
 obtain ⟨ua,uc,rfl,_⟩:=hil.shape
 have HIL:=hid hil
 have HIN:=hid hin
 have HB1:=hid hb1
 have HI1:=hid (HI.out.under hb1)
 have HS1:=hid (HIS.out W1 hb1)
 have b1:=kept_cell hb1 a1
 have b2:=kept_cell hb1 a2
 have b3:=kept_cell hb1 a3
 have b5:=kept_cell hb1 a5
 clear hil hin hb1 a0 a1 a2 a3 a4 a5 a6 a7 HUP
 obtain ⟨B,hB⟩:∃ B,(!nameB rn || !upB ra 16 || !upB rb 5 || !upB rc rb)=B:=⟨_,rfl⟩
 go_upto_region 2 with fail
 go_cut [12] from 12 to 36 (fun s12 V=>s12=.bool B∧V=W1)
 case first =>
  as_aux_lemma =>
   cases h1:nameB rn with
   | false =>
    rw [h1] at HNM hB
    simp only [Bool.not_false,Bool.true_or] at hB
    subst hB
    go_wp2_with (first | (go_at_call 93;refine (HNM.out _).mono ?_;rintro e w9 ⟨rfl,rfl⟩) | (go_at_call 67;refine (HU67.out _ _ _ (by simp)).mono ?_;rintro e w9 ⟨rfl,rfl⟩))
    go_meet
    case rel=>exact ⟨rfl,rfl⟩
   | true =>
    rw [h1] at HNM hB
    cases h2:upB ra 16 with
    | false =>
     rw [h2] at hB
     simp only [Bool.not_false,Bool.not_true,Bool.true_or,Bool.or_true,Bool.false_or] at hB
     subst hB
     go_wp2_with (first | (go_at_call 93;refine (HNM.out _).mono ?_;rintro e w9 ⟨rfl,rfl⟩) | (go_at_call 67;refine (HU67.out _ _ _ (by simp)).mono ?_;rintro e w9 ⟨rfl,rfl⟩))
     go_meet
     case rel=>exact ⟨rfl,rfl⟩
    | true =>
     rw [h2] at hB
     cases h3:upB rb 5 with
     | false =>
      rw [h3] at hB
      simp only [Bool.not_false,Bool.not_true,Bool.true_or,Bool.or_true,Bool.false_or] at hB
      subst hB
      go_wp2_with (first | (go_at_call 93;refine (HNM.out _).mono ?_;rintro e w9 ⟨rfl,rfl⟩) | (go_at_call 67;refine (HU67.out _ _ _ (by simp)).mono ?_;rintro e w9 ⟨rfl,rfl⟩))
      go_meet
      case rel=>exact ⟨rfl,rfl⟩
     | true =>
      rw [h3] at hB
      cases h4:upB rc rb with
      | false =>
       rw [h4] at hB
       simp only [Bool.not_false,Bool.not_true,Bool.true_or,Bool.or_true,Bool.false_or] at hB
       subst hB
       go_wp2_with (first | (go_at_call 93;refine (HNM.out _).mono ?_;rintro e w9 ⟨rfl,rfl⟩) | (go_at_call 67;refine (HU67.out _ _ _ (by simp)).mono ?_;rintro e w9 ⟨rfl,rfl⟩))
       go_meet
       case rel=>exact ⟨rfl,rfl⟩
      | true =>
       rw [h4] at hB
       simp only [Bool.not_false,Bool.not_true,Bool.true_or,Bool.or_true,Bool.false_or] at hB
       subst hB
       go_wp2_with (first | (go_at_call 93;refine (HNM.out _).mono ?_;rintro e w9 ⟨rfl,rfl⟩) | (go_at_call 67;refine (HU67.out _ _ _ (by simp)).mono ?_;rintro e w9 ⟨rfl,rfl⟩))
       go_meet
       case rel=>exact ⟨rfl,rfl⟩
 case rest =>
  obtain ⟨rfl,rfl⟩:=hcut
  rw [hB] at HF
  cases B with
  | true =>
   rw [if_pos rfl] at HF
   go_wp2_with fail
   go_ret2
   exact ⟨by rw [HF.out];rfl,by rw [HF.out];exact HS1.out⟩
  | false =>
   rw [if_neg (by simp)] at HF
   have hB2:nameB rn=true∧(1≤ra∧ra≤16)∧(1≤rb∧rb≤5)∧(1≤rc∧rc≤rb):=by
    simp only [Bool.or_eq_false_iff,Bool.not_eq_false'] at hB
    exact ⟨hB.1.1.1,upB_iff.1 hB.1.1.2,upB_iff.1 hB.1.2,upB_iff.1 hB.2⟩
   obtain ⟨q0,⟨q1a,q1b⟩,⟨q2a,q2b⟩,⟨q3a,q3b⟩⟩:=hB2
   have HPL:=hid (place_any HI1.out rn)
   clear hB
   go_wp2_with fail
   refine HPL.out.mono ?_
   rintro e W2 ⟨⟨ix,rfl,g1,g2,g3⟩,hb2⟩
   cases hT:hasT I.tops rn with
   | true =>
    rw [if_pos hT] at HF
    obtain ⟨g4,_⟩:=g1 hT
    have HS2:=hid (HIS.out W2 (HB1.out.trans (hb2.mono HB1.out.size)))
    clear g1 g2 hb2
    go_wp2_with fail
    go_ret2
    exact ⟨by rw [HF.out];rfl,by rw [HF.out];exact HS2.out⟩
   | false =>
    rw [if_neg (by simp [hT])] at HF
    have g4:=g2 hT
    subst g4
    have HB2:Hid (Below W.heap.size W W2):=HB1.out.trans (hb2.mono HB1.out.size)
    have HI2:=hid (HI1.out.under hb2)
    have HIL2:=hid (HIL.out.under hb2)
    have HS2:=hid (HIS.out W2 HB2.out)
    have d1:=kept_cell hb2 b1
    have d2:=kept_cell hb2 b2
    have d3:=kept_cell hb2 b3
    have d5:=kept_cell hb2 b5
    have e3:=HI2.out.c3
    obtain ⟨oa,cap,hvp,hcap,hcm,hnn,hat⟩:=row_shape HI2.out.parts
    have hpl:=HI2.out.plen
    have hf16:=HI2.out.ok.few
    rw [← hpl] at hvp hat
    subst hvp
    have HPLN:=hid hpl
    clear hpl
    clear g1 g2 g3 hb2 b1 b2 b3 b5 HPL HI1 HIL HS1 HB1 HNM HU67 hnn hcm hcap
    obtain ⟨C,hC⟩:∃ C,decide (16<(I.parts.length:Int)+ra∨((upL I.brs).length:Int)<rb)=C:=⟨_,rfl⟩
    have hwa:IntKind.i64.wrap ((I.parts.length:Int)+ra)=(I.parts.length:Int)+ra:=IntWalk.i64_in _ ⟨by omega,by omega⟩
    go_wp2_with fail
    go_cut [43] from 43 to 59 (fun s43 V=>s43=.bool C∧Hid (Below W2.heap.size W2 V))
    case first =>
     as_aux_lemma =>
     by_cases k1:16<(I.parts.length:Int)+ra
     ·have hCt:C=true:=by rw [← hC];exact decide_eq_true (.inl k1)
      subst hCt
      go_quiet (fail)
      all_goals
       go_wp2_with fail
       go_meet
       case rel=>exact ⟨rfl,below_drewN (Below.refl _ _) _⟩
     ·have k1':decide (16<(I.parts.length:Int)+ra)=false:=decide_eq_false k1
      by_cases k2:((upL I.brs).length:Int)<rb
      ·have hCt:C=true:=by rw [← hC];exact decide_eq_true (.inr k2)
       subst hCt
       go_quiet (fail)
       all_goals
        go_wp2_with fail
        go_meet
        case rel=>exact ⟨rfl,below_drewN (Below.refl _ _) _⟩
      ·have hCt:C=false:=by rw [← hC];exact decide_eq_false (fun hh=>hh.elim k1 k2)
       subst hCt
       go_quiet (fail)
       all_goals
        go_wp2_with fail
        go_meet
        case rel=>exact ⟨rfl,below_drewN (Below.refl _ _) _⟩
    case rest =>
     obtain ⟨rfl,HBC⟩:=hcut
     cases C with
     | true =>
      rw [if_pos (of_decide_eq_true hC)] at HF
      have HS3:=hid (HIS.out wc (HB2.out.trans (HBC.out.mono HB2.out.size)))
      go_wp2_with fail
      go_ret2
      exact ⟨by rw [HF.out];rfl,by rw [HF.out];exact HS3.out⟩
     | false =>
      have hC2:=of_decide_eq_false hC
      rw [if_neg hC2] at HF
      have hC3:(I.parts.length:Int)+ra≤16∧rb≤((upL I.brs).length:Int):=by omega
      obtain ⟨k1,k2⟩:=hC3
      clear hC hC2 hwa HS2
      obtain ⟨na,hna⟩:∃ na:Nat,ra=(na:Int):=⟨ra.toNat,by omega⟩
      obtain ⟨nb,hnb⟩:∃ nb:Nat,rb=(nb:Int):=⟨rb.toNat,by omega⟩
      subst hna
      subst hnb
      have HB3:Hid (Below W.heap.size W wc):=HB2.out.trans (HBC.out.mono HB2.out.size)
      have HI3:=hid (HI2.out.under HBC.out)
      have HIL3:=hid (HIL2.out.under HBC.out)
      clear HI2 HIL2 HB2
      have m1:=kept_cell HBC.out d1
      have m2:=kept_cell HBC.out d2
      have m3:=kept_cell HBC.out d3
      have m5:=kept_cell HBC.out d5
      have n3:=HI3.out.c3
      have hxW:x<W.heap.size:=by omega
      have hxc:x<wc.heap.size:=Nat.lt_of_lt_of_le hxW HB3.out.size
      have hqc:q<wc.heap.size:=HI3.out.lt (.inl rfl)
      have HSC:Hid (∀ V,Calls Tryz.prog 119 #[.string rn] V fun e w'=>e=.returned (.string rn)∧Below V.heap.size V w'):=fun V=>sclone_any rn V (by
       have h1:nameB rn=true:=q0
       unfold nameB at h1
       rw [Bool.and_eq_true] at h1
       have:=upB_iff.1 h1.1
       omega)
      have HX3:=hid ((HB3.out.block x hxW).trans HBX.out)
      clear d1 d2 d3 d5 e3 HBC
      generalize wc=W3 at *
      have hw8:IntKind.i64.wrap ((I.parts.length:Int)+1)=(I.parts.length:Int)+1:=IntWalk.i64_in _ ⟨by omega,by omega⟩
      go_wp2_with fail
      go_cut [7] from 7 to 71 (fun s7 V=>∃ y,s7=.pointer (some ⟨y,0,none⟩)∧Hid (V.heap[y]?=some (.cells #[.string rn,.int .i64 ((I.parts.length:Int)+1),.int .i64 (na:Int)] 96)∧Below W3.heap.size W3 V∧W3.heap.size≤y))
      case first =>
       have nx:¬ x=W3.heap.size:=by omega
       have nq:¬ q=W3.heap.size:=by omega
       have nx2:¬ W3.heap.size=x:=by omega
       have nq2:¬ W3.heap.size=q:=by omega
       have HM:Hid (∀ V,Below W3.heap.size W3 V→V.cell? ⟨x,5,none⟩=some (.string rn)∧V.cell? ⟨x,1,none⟩=some (.int .i64 (na:Int))∧V.cell? ⟨q,3,none⟩=some (.slice oa I.parts.length cap)):=fun V hV=>⟨kept_cell hV m5,kept_cell hV m1,kept_cell hV n3⟩
       have HZ:Hid (∀ V,Below (W3.alloc (.cells #[.string ⟨#[]⟩,.int .i64 0,.int .i64 0] 96)).drew.heap.size (W3.alloc (.cells #[.string ⟨#[]⟩,.int .i64 0,.int .i64 0] 96)).drew V→V.heap[W3.heap.size]?=some (.cells #[.string ⟨#[]⟩,.int .i64 0,.int .i64 0] 96)∧Below W3.heap.size W3 V):=fun V hV=>⟨(hV.block W3.heap.size (by simp)).trans (heap_alloc_new W3 _),((Below.refl _ W3).alloc (Nat.le_refl _) _).drew.trans (hV.mono (by simp))⟩
       have HY:Hid (∀ V,Below W3.drew.heap.size W3.drew V→Below W3.heap.size W3 V):=fun V hV=>(Below.refl _ W3).drew.trans hV
       go_region_held3 (fun V=>V.cell? ⟨x,5,none⟩=some (.string rn)∧V.cell? ⟨x,1,none⟩=some (.int .i64 (na:Int))∧V.cell? ⟨q,3,none⟩=some (.slice oa I.parts.length cap)) (first | assumption | go_keep) (first | (go_at_call 119;refine (HSC.out _).mono ?_;rintro e V1 ⟨rfl,hbV⟩;have hBV:=HY.out V1 hbV;have HBV:=hid hBV;obtain ⟨k5,k1,k3⟩:=HM.out V1 hBV;clear hBV hbV) | (go_at_call 119;refine (HSC.out _).mono ?_;rintro e V1 ⟨rfl,hbV⟩;obtain ⟨kz,hBV⟩:=HZ.out V1 hbV;have z0:=cell_blk kz 0 _ rfl;have z1:=cell_blk kz 1 _ rfl;have z2:=cell_blk kz 2 _ rfl;have zf:=frz_blk kz;have HKZ:=hid kz;have HBV:=hid hBV;obtain ⟨k5,k1,k3⟩:=HM.out V1 hBV;clear kz hBV hbV) | fail)
       all_goals
        go_wp2_with fail
        go_meet
        case rel=>first
         | exact ⟨_,rfl,heap_alloc_new _ _,HBV.out.alloc HBV.out.size _,HBV.out.size⟩
         | exact ⟨_,rfl,set_box (set_box (set_box HKZ.out)),((HBV.out.setCell (Nat.le_refl _) _).setCell (Nat.le_refl _) _).setCell (Nat.le_refl _) _,Nat.le_refl _⟩
         | fail
      case rest =>
       obtain ⟨y,rfl,HY⟩:=hcut
       clear m1 m2 m3 m5 n3 hw8 HSC
       have hy3:=HY.out.2.2
       have HI4:=hid (HI3.out.under HY.out.2.1)
       have HIL4:=hid (HIL3.out.under HY.out.2.1)
       have HX4:=hid ((HY.out.2.1.block x hxc).trans HX3.out)
       have HYB:=hid HY.out.1
       have HBL4:=hid HY.out.2.1
       have hsz34:W3.heap.size≤wc.heap.size:=HY.out.2.1.size
       clear HI3 HIL3 HX3 HY
       generalize wc=W4 at *
       obtain ⟨ot,ct,hvt,_⟩:=row_shape HI4.out.tops
       subst hvt
       have HOK:Hid (ImOk { I with tops:=I.tops++[⟨rn,(I.parts.length:Int)+1,(na:Int)⟩] }):=by
        have k:=HI4.out.ok
        have hnm:nameB rn=true:=q0
        unfold nameB at hnm
        rw [Bool.and_eq_true] at hnm
        have hn32:=upB_iff.1 hnm.1
        refine ⟨k.keys,k.brs,k.parts,k.few,?_,fun t ht=>?_,fun t ht=>?_,k.eps,k.epv,k.app⟩
        ·show sumT (I.tops++_)≤16
         rw [sumT_append,hsum]
         simp only [sumT]
         omega
        ·rcases List.mem_append.1 ht with ht | ht
         ·exact k.name t ht
         ·simp at ht;subst ht;simp only;omega
        ·rcases List.mem_append.1 ht with ht | ht
         ·exact k.nums t ht
         ·simp at ht;subst ht;simp only;omega
       have HYO:Hid (¬ Own q b (.slice ot I.tops.length ct) (.slice oa I.parts.length cap) ve y):=fun ho=>by have:=HOW.out y ho;omega
       go_wp2_with fail
       go_cut [] from 72 to 81 (fun V=>∃ g c,Hid (ImC V L q b (.slice (some ⟨g,0,none⟩) (I.tops.length+1) c) (.slice oa I.parts.length cap) ve ps { I with tops:=I.tops++[⟨rn,(I.parts.length:Int)+1,(na:Int)⟩] }∧((Value.slice ot I.tops.length ct).ownBlock=some g∨W4.heap.size≤g)∧Keeps (Own q b (.slice ot I.tops.length ct) (.slice oa I.parts.length cap) ve) W4 V))
       case first =>
        refine region9 _ HI4.out ⟨rn,(I.parts.length:Int)+1,(na:Int)⟩ y HYB.out HYO.out HOK.out rfl rfl rfl ?_
        intro g c V i1 i2 i3
        simp only [Act.put,List.setIfInBounds_toArray,List.set_cons_zero,List.set_cons_succ]
        have HV3:=hid (And.intro i1 (And.intro i2 i3))
        clear i1 i2 i3
        go_wp2_with fail
        go_meet
        case rel=>exact ⟨g,c,HV3.out⟩
       case rest =>
        obtain ⟨g,c,HV⟩:=hcut
        have hg4:g<x∨W4.heap.size≤g:=by
         rcases HV.out.2.1 with e | e
         ·exact .inl (HOW.out g (.inr (.inr (.inl e))))
         ·exact .inr e
        have hsz4:=HV.out.2.2.size
        have HGL:Hid (g<wc.heap.size):=HV.out.1.lt (.inr (.inr (.inl rfl)))
        have HBL5:Hid (∀ k,x≤k→k<W4.heap.size→wc.heap[k]?=W4.heap[k]?):=fun k h1 h2=>HV.out.2.2.block k h2 (fun ho=>by have:=HOW.out k ho;omega)
        have hy4:y<W4.heap.size:=(Array.getElem?_eq_some_iff.1 HYB.out).1
        have HY5:=hid ((HBL5.out y (by omega) hy4).trans HYB.out)
        have HX5:=hid ((HBL5.out x (Nat.le_refl _) (by omega)).trans HX4.out)
        have HIL5:Hid (IL wc (.slice ua (upL I.brs).length uc) (upL I.brs)):=HIL4.out.kept (X:=fun k=>W.heap.size≤k∧k<W4.heap.size) (fun hn bb off n c e=>⟨HIN.out hn bb off n c e,HIL4.out.old hn bb off n c e⟩) (fun k hk=>HBL5.out k (by omega) hk.2) hsz4
        have HIN5:Hid (In (fun k=>W.heap.size≤k∧k<W4.heap.size) (.slice ua (upL I.brs).length uc) (upL I.brs)):=fun hn bb off n c e=>⟨HIN.out hn bb off n c e,HIL4.out.old hn bb off n c e⟩
        have HK5:Hid (Keeps (Own q b (.slice ot I.tops.length ct) (.slice oa I.parts.length cap) ve) W wc):=(Keeps.of_below (HB3.out.trans (HBL4.out.mono HB3.out.size))).trans HV.out.2.2 (fun x hx=>.inl hx)
        have HI5:=hid HV.out.1
        have HG5:=hid HV.out.2.1
        have HTI:=hid (tids_any rn ((I.parts.length:Int)+1) na wc (by omega) (by omega))
        have y0:=cell_blk HY5.out 0 _ rfl
        have y1:=cell_blk HY5.out 1 _ rfl
        have y2:=cell_blk HY5.out 2 _ rfl
        clear HV HI4 HIL4 HX4 HYB HYO HBL4 HB3 HBL5
        generalize wc=W5 at *
        go_wp2_with fail
        refine HTI.out.mono ?_
        rintro e W6 ⟨iv,rfl,hil6,hin6,hb6⟩
        obtain ⟨ia,ic,hiv,_,_,_,hiat⟩:=hil6.shape
        have hlen6:((List.range na).map fun (i:Nat)=>(I.parts.length:Int)+1+(i:Int)).length=na:=by simp
        rw [hlen6] at hiv
        subst hiv
        have HI6:=hid (HI5.out.under hb6)
        have HY6:=hid ((hb6.block y (by omega)).trans HY5.out)
        have HX6:=hid ((hb6.block x (by omega)).trans HX5.out)
        have HIL6:=hid (HIL5.out.under hb6)
        have HID6:=hid hil6
        have HIDN:=hid hin6
        have HK6:Hid (Keeps (Own q b (.slice ot I.tops.length ct) (.slice oa I.parts.length cap) ve) W W6):=HK5.out.trans (Keeps.of_below (S:=fun _=>False) hb6) (fun x hx=>hx.elim)
        have hsz56:W5.heap.size≤W6.heap.size:=hb6.size
        clear HI5 HY5 HX5 HIL5 HK5 hb6 hil6 hin6 y0 y1 y2 HTI hlen6
        have hpl:=HPLN.out
        obtain ⟨J,hJ⟩:∃ J,J=({ I with tops:=I.tops++[⟨rn,(I.parts.length:Int)+1,(na:Int)⟩] }:Im):=⟨_,rfl⟩
        rw [← hJ] at HI6
        rw [hpl] at HI6
        have HJP:Hid (J.parts=I.parts):=by show _=_;rw [hJ]
        have HJJ:=hid hJ
        have HUPO:=hid (upL_ok HI6.out.ok)
        have HJB:Hid (J.brs=I.brs):=by show _=_;rw [hJ]
        rw [HJB.out] at HUPO
        have hu7:=ids_len HUPO.out
        have HOW2:Hid (∀ k,(Value.slice oa ps.length cap).ownBlock=some k→k<x):=fun k e=>HOW.out k (.inr (.inr (.inr (.inl (by rw [hpl];exact e)))))
        have HCL:Hid (∀ wr,Keeps (Own q b (.slice (some ⟨g,0,none⟩) (I.tops.length+1) c) (.slice oa ps.length cap) ve) W6 wr→∀ k,x≤k→(k<W4.heap.size∨W5.heap.size≤k)→k<W6.heap.size→wr.heap[k]?=W6.heap[k]?):=fun wr hk k h1 h2 h3=>hk.block k h3 (fun ho=>by
         rcases ho with e | e | e | e | e
         ·omega
         ·have:=HOW.out k (.inr (.inl e));omega
         ·have e2:=own_some e
          have hg5:g<W5.heap.size:=HGL.out
          rcases hg4 with h | h <;> rcases h2 with h2 | h2 <;> omega
         ·have:=HOW2.out k e;omega
         ·have:=HOW.out k (.inr (.inr (.inr (.inr e))));omega)
        clear hJ hpl
        go_wp2_with fail
        go_loopg [85] na (fun kx s85 wr=>∃ k:Nat,k≤na∧na - k≤kx∧s85=.int .i64 (k:Int)∧Hid (TopL W6 wr L q b (.slice (some ⟨g,0,none⟩) (I.tops.length+1) c) (.slice oa ps.length cap) ve J (upL I.brs) nb rc k))
        case atStart=>exact ⟨0,Nat.zero_le _,by omega,rfl,TopL.start HI6.out _ _ _⟩
        case round =>
         obtain ⟨k,hk,hkx,rfl,HK⟩:=hrel
         have HX7:=hid ((HCL.out wr HK.out.keeps x (Nat.le_refl _) (.inl (by omega)) (by omega)).trans HX6.out)
         have HY7:=hid ((HCL.out wr HK.out.keeps y (by omega) (.inl hy4) (by omega)).trans HY6.out)
         by_cases hlt:k<na
         ·obtain ⟨⟨L1,oa1,cap1,ps1,j1,j2,j3⟩,jk⟩:=HK.out
          obtain ⟨ib,io,rfl,hib,hic⟩:=hiat (by intro e;have:=congrArg List.length e;simp at this;omega)
          have hib5:W5.heap.size≤ib:=HIDN.out (by intro e;have:=congrArg List.length e;simp at this;omega) ib io _ _ rfl
          have hik:=hic k (by simpa using hlt)
          simp only [List.getElem_map,List.getElem_range] at hik
          have hik2:wr.cell? ⟨ib,io+k,none⟩=some (.int .i64 ((I.parts.length:Int)+1+(k:Int))):=(World.cell?_of_block (a:=⟨ib,io+k,none⟩) (HCL.out wr jk ib (by omega) (.inr hib5) hib)).trans hik
          have hxo:¬ Own q b (.slice (some ⟨g,0,none⟩) (I.tops.length+1) c) (.slice oa1 ps1.length cap1) ve x:=fun ho=>by
           rcases ho with e | e | e | e | e
           ·omega
           ·have:=HOW.out x (.inr (.inl e));omega
           ·have e2:=own_some e
            rcases hg4 with h | h <;> omega
           ·rcases j3 x e with e | e
            ·have:=HOW2.out x e;omega
            ·omega
           ·have:=HOW.out x (.inr (.inr (.inr (.inr e))));omega
          have hilr:IL wr (.slice ua (upL I.brs).length uc) (upL I.brs):=HIL6.out.kept HIN5.out (fun k hk=>HCL.out wr jk k (by omega) (.inl hk.2) (by omega)) jk.size
          have hjl:(J.parts++moreP J.parts.length (upL I.brs) nb rc k).length=I.parts.length+k:=by rw [List.length_append,moreP_len,HJP.out]
          have hok:ImOk { ({ J with parts:=J.parts++moreP J.parts.length (upL I.brs) nb rc k }:Im) with parts:=(J.parts++moreP J.parts.length (upL I.brs) nb rc k)++[newP ((I.parts.length:Int)+1+(k:Int)) (roundL (upL I.brs) k nb) rc] }:=j1.ok.push (newP_right HUPO.out (by omega) (by omega) (by omega) (by omega)) (by show (I.parts.length:Int)+1+(k:Int)=_;simp only [hjl];push_cast;omega) (by simp only [hjl];omega)
          have HJ1:=hid j1
          have HOK7:=hid hok
          have HXO:=hid hxo
          have HILR:=hid hilr
          have HNX:Hid (∀ (g' c':Nat) (V:World) (L2:Nat→Prop) (ps2:List (Value × Pt)),ImC V L2 q b (.slice (some ⟨g,0,none⟩) (I.tops.length+1) c) (.slice (some ⟨g',0,none⟩) (ps1.length+1) c') ve ps2 { ({ J with parts:=J.parts++moreP J.parts.length (upL I.brs) nb rc k }:Im) with parts:=(J.parts++moreP J.parts.length (upL I.brs) nb rc k)++[newP ((I.parts.length:Int)+1+(k:Int)) (roundL (upL I.brs) k nb) rc] }→(∀ j,L2 j→L1 j∨wr.heap.size≤j)→((Value.slice oa1 ps1.length cap1).ownBlock=some g'∨wr.heap.size≤g')→Keeps (Own q b (.slice (some ⟨g,0,none⟩) (I.tops.length+1) c) (.slice oa1 ps1.length cap1) ve) wr V→TopL W6 V L q b (.slice (some ⟨g,0,none⟩) (I.tops.length+1) c) (.slice oa ps.length cap) ve J (upL I.brs) nb rc (k+1)):=fun g' c' V L2 ps2 i1 i2 i3 i4=>TopL.next jk j2 j3 (by rw [HJP.out] at i1 ⊢;exact i1) i2 i3 i4
          have hu0:0<(upL I.brs).length:=by omega
          have hlt':(k:Int)<(na:Int):=by omega
          clear j1 j2 j3 jk hok hxo hilr hic hik hjl HK
          go_wp2_with fail
          refine region13 _ HJ1.out x nb k rk (na:Int) rc rd ((I.parts.length:Int)+1+(k:Int)) rn rt la rl.length lc HX7.out HXO.out ua uc (upL I.brs) HILR.out hu0 (by omega) (by omega) (by omega) (by omega) (by unfold I64;omega) (by unfold I64;omega) HOK7.out rfl rfl rfl rfl rfl rfl ?_
          intro g' c' V L2 ps2 LV PV BV AV i1 i2 i3 i4
          simp only [Act.put,List.setIfInBounds_toArray,List.set_cons_zero,List.set_cons_succ]
          have HT:=hid (HNX.out g' c' V L2 ps2 i1 i2 i3 i4)
          clear i1 i2 i3 i4
          go_wp2_with fail
          go_roundg (na - (k+1))
          case measure=>omega
          case rel=>exact ⟨k+1,by omega,Nat.le_refl _,by go_num,HT.out⟩
         ·have hlt':¬ (k:Int)<(na:Int):=by omega
          have hkn:k=na:=by omega
          have y1:=cell_blk HY7.out 1 _ rfl
          have HE:Hid (IAfter Z w wr q R.1):=by
           obtain ⟨⟨L1,oa1,cap1,ps1,j1,j2,j3⟩,jk⟩:=HK.out
           rw [HF.out]
           refine HIO2.out wr _ ⟨.slice (some ⟨g,0,none⟩) (I.tops.length+1) c,.slice oa1 ps1.length cap1,ve,L1,ps1,?_,fun j hj=>?_,fun j hj=>(j2 j hj).imp (fun e=>e) (fun e=>by omega),HK6.out.trans jk (fun j hj=>?_)⟩
           ·rw [hkn,HJP.out,HJJ.out] at j1
            simp only [Int.toNat_natCast]
            exact j1
           ·rcases hj with e | e | e | e | e
            ·exact .inl (.inl e)
            ·exact .inl (.inr (.inl e))
            ·have e2:=own_some e
             subst e2
             rcases HG5.out with e | e
             ·exact .inl (.inr (.inr (.inl e)))
             ·exact .inr (by omega)
            ·rcases j3 j e with e | e
             ·exact .inl (.inr (.inr (.inr (.inl (by rw [HPLN.out];exact e)))))
             ·exact .inr (by omega)
            ·exact .inl (.inr (.inr (.inr (.inr e))))
           ·rcases hj with e | e | e | e | e
            ·exact .inl (.inl e)
            ·exact .inl (.inr (.inl e))
            ·have e2:=own_some e
             subst e2
             rcases HG5.out with e | e
             ·exact .inl (.inr (.inr (.inl e)))
             ·exact .inr (by omega)
            ·exact .inl (.inr (.inr (.inr (.inl (by rw [HPLN.out];exact e)))))
            ·exact .inl (.inr (.inr (.inr (.inr e))))
          clear HK hkn
          go_wp2_with fail
          go_ret2
          exact ⟨by rw [HF.out];rfl,HE.out⟩
end Go.Proofs.YtcffomhcmilcpaaGreat
namespace Go.Proofs.YtcffomhcmilcpaaGreat
theorem eq_of_beq_self {α:Type} {a b:α} (h:a=b):a=b:=h
def rcR (a b c d:Int):Rc:=⟨a,b,c,d,0,⟨#[116]⟩,⟨#[]⟩,[]⟩
def shI:Nat→Im
 | 0=>Im.new
 | k+1=>(applyI (applyI (shI k) (rcR 1 ((k:Int)+1) 1 0)).1 (rcR 3 ((k:Int)+1) 1 0)).1
theorem sh_reg (k:Nat) (h:k<3):(applyI (shI k) (rcR 1 ((k:Int)+1) 1 0)).2=((k:Int)+1,0):=by
 have:k=0∨k=1∨k=2:=by omega
 rcases this with rfl | rfl | rfl
 ·exact eq_of_beq_self (by kernel_rfl)
 ·exact eq_of_beq_self (by kernel_rfl)
 ·exact eq_of_beq_self (by kernel_rfl)
theorem sh_unf (k:Nat) (h:k<3):(applyI (applyI (shI k) (rcR 1 ((k:Int)+1) 1 0)).1 (rcR 3 ((k:Int)+1) 1 0)).2=((k:Int)+1,0):=by
 have:k=0∨k=1∨k=2:=by omega
 rcases this with rfl | rfl | rfl
 ·exact eq_of_beq_self (by kernel_rfl)
 ·exact eq_of_beq_self (by kernel_rfl)
 ·exact eq_of_beq_self (by kernel_rfl)
def sh4:Im × Int × Int:=applyI (shI 3) (rcR 4 2 2 1)
def sh5:Im × Int × Int:=applyI sh4.1 (rcR 2 1 1 0)
def sh6:Im × Int × Int:=applyI sh5.1 (rcR 1 1 1 0)
def sh7:Im × Int × Int:=applyI sh6.1 (rcR 4 1 1 1)
def sh8:Im × Int × Int:=applyI sh7.1 (rcR 8 0 0 0)
def sh9:Im × Int × Int:=applyI sh8.1 (rcR 8 1 0 0)
theorem sh4_two:sh4.2=(1,0):=by kernel_rfl
theorem sh4_part:sh4.1.parts=[newP 1 [1,2] 1,newP 2 [2,3] 1]:=by kernel_rfl
theorem sh5_two:sh5.2=(1,0):=by kernel_rfl
theorem sh5_part:sh5.1.parts=[⟨1,2,2,2,[2],[1,2],[],[],1⟩,newP 2 [2,3] 1]:=by kernel_rfl
theorem sh6_two:sh6.2=(0,13):=by kernel_rfl
theorem sh7_two:sh7.2=(0,9):=by kernel_rfl
theorem sh8_two:sh8.2=(1,0):=by kernel_rfl
theorem sh9_two:sh9.2=(1,0):=by kernel_rfl
theorem sh6_app:sh6.1.applied=9:=by kernel_rfl
theorem sh7_app:sh7.1.applied=10:=by kernel_rfl
theorem sh8_app:sh8.1.applied=11:=by kernel_rfl
theorem sh9_app:sh9.1.applied=12:=by kernel_rfl
end Go.Proofs.YtcffomhcmilcpaaGreat
