/- Is an image the document's? -/
import Derived.Test.YtcffomhcmilcpaaGreatC25
import Derived.Test.YtcffomhcmilcpaaGreatC24
import Derived.Test.YtcffomhcmilcpaaGreatC30
import Derived.Test.YtcffomhcmilcpaaGreatC21
import Derived.Test.YtcffomhcmilcpaaGreatC22
import Derived.Test.YtcffomhcmilcpaaGreatC31
import Derived.Test.YtcffomhcmilcpaaGreatC34
import Derived.Test.YtcffomhcmilcpaaGreatC23
import Derived.Test.YtcffomhcmilcpaaGreatC27
import Derived.Test.YtcffomhcmilcpaaGreatC42
import Derived.BigQuiet
import Derived.Deep.CutRange
import Derived.Deep.CutBlock
set_option maxRecDepth 100000
set_option maxHeartbeats 20000000
set_option linter.unusedVariables false
set_option linter.unusedSimpArgs false
namespace Go.Proofs.YtcffomhcmilcpaaGreat
open Go.RowKit Go.Maps
theorem sameP_own (p:Pt):sameP p p=true:=by simp [sameP]
theorem sameN_l {s t:ByteArray}:sameN s t=true ↔ s.toList=t.toList:=by simp [sameN]
theorem top_has {ts:List Tp} (i:Nat) (hi:i<ts.length):hasT ts ts[i].name=true:=by
 unfold hasT
 rw [List.any_eq_true]
 exact ⟨ts[i],List.getElem_mem hi,sameN_l.2 rfl⟩
theorem top_one {ts:List Tp} (h:TpOk ts) (i:Nat) (hi:i<ts.length) {t:Tp} (ht:t∈ts) (hs:sameN t.name ts[i].name=true):t=ts[i]:=by
 obtain ⟨j,hj,rfl⟩:=List.mem_iff_getElem.1 ht
 have key:∀ (a b:Nat) (ha:a<ts.length) (hb:b<ts.length),a<b→sameN ts[a].name ts[b].name=true→False:=fun a b ha hb hab h1=>by
  have h2:=h.apart b hb
  unfold hasT at h2
  rw [List.any_eq_false] at h2
  refine h2 ts[a] ?_ h1
  rw [List.mem_take_iff_getElem]
  exact ⟨a,by omega,rfl⟩
 rcases Nat.lt_trichotomy j i with h1 | h1 | h1
 ·exact (key j i hj hi h1 hs).elim
 ·subst h1;rfl
 ·exact (key i j hi hj h1 (sameN_l.2 (sameN_l.1 hs).symm)).elim
theorem got_at {bs:BM} (hk:bs.Pairwise (fun p q=>p.1<q.1)) (k:Nat) (h:k<bs.length):valB bs bs[k].1=bs[k].2∧(getB bs bs[k].1).isSome=true:=by
 refine ⟨valB_at bs hk k _ (List.getElem?_eq_getElem h),?_⟩
 cases hg:getB bs bs[k].1 with
 | none=>exact absurd rfl (getB_none hg bs[k] (List.getElem_mem h))
 | some x=>rfl
theorem idsT_len {t:Tp} (h:1≤t.count):((idsT t).length:Int)=t.count∧(idsT t)≠[]∧∀ h:0<(idsT t).length,(idsT t)[0]=t.first:=by
 have hl:(idsT t).length=t.count.toNat:=by simp [idsT]
 refine ⟨by omega,fun e=>by rw [e] at hl;simp at hl;omega,fun h=>by simp [idsT]⟩
theorem alike_any {w:World} {Zp Zd:Nat→Prop} {q r:Nat} {I:Im} (hp:Img w Zp q I) (hd:DImg w Zd r I) (htn:TN I):Calls Tryz.prog 14 #[.pointer (some ⟨q,0,none⟩),.pointer (some ⟨r,0,none⟩)] w fun e w'=>e=.returned (.bool true)∧Below w.heap.size w w':=by
 have HP:Hid (∀ V,Below w.heap.size w V→Img V Zp q I):=fun V hV=>hp.under hV
 obtain ⟨L,vb,vt,vp,ve,ps,hd,_⟩:=hd
 obtain ⟨ob,cb,rfl,_,_,_,hatb⟩:=row_shape hd.brs
 obtain ⟨ot,ct,rfl,_,_,_,hatt⟩:=row_shape hd.tops
 obtain ⟨op,cp,hvp,_,_,_,hatp⟩:=row_shape hd.parts
 have hpl:=hd.plen
 rw [← hpl] at hvp hatp
 subst hvp
 have HD:Hid (∀ V,Below w.heap.size w V→DC V L r (.slice ob I.brs.length cb) (.slice ot I.tops.length ct) (.slice op I.parts.length cp) ve ps I):=fun V hV=>hd.under hV
 have HOK:=hid hd.ok
 have HTN:=hid htn
 have HAB:=hid hatb
 have HAT:=hid hatt
 have HAP:=hid hatp
 have hf16:=hd.ok.few
 have hl7:=keys_few hd.ok.keys (fun p hp=>(hd.ok.brs p hp).1)
 have hl16:=hd.ok.topsFew
 have HB0:=hid (Below.refl w.heap.size w)
 have HPT:=hid (parts_any hp)
 have HEACH:=hid hd.ok.nums
 have HKEY:=hid hd.ok.keys
 clear hp hd htn hatb hatt hatp hpl
 go_enter Tryz.func14,Tryz.ntmps14
 go_wp2_with fail
 refine HPT.out.mono ?_
 rintro e w1 ⟨pv,rfl,hpa,hb1⟩
 have HPA:=hid hpa
 have HB1:=hid hb1
 have hsh:∃ a c,pv=.slice a I.parts.length c:=by
  obtain ⟨ds,_,h2,_⟩:=hpa
  obtain ⟨oa,cap,e,_⟩:=row_shape h2
  exact ⟨_,_,e⟩
 obtain ⟨pa,pk,rfl⟩:=hsh
 clear hpa hb1 HPT
 go_wp2_with fail
 obtain ⟨Li,bi,vti,vpi,vei,psi,hic,_⟩:=id (HP.out w1 HB1.out)
 refine (up_any hic).mono ?_
 rintro e w2 ⟨u1,rfl,hu1,_,hb2⟩
 clear hic
 have HB2:=hid (HB1.out.trans (hb2.mono HB1.out.size))
 have HPA2:=hid (HPA.out.under hb2)
 have HU1:=hid hu1
 clear hu1 hb2 HPA
 go_wp2_with fail
 refine (rup_any (HD.out w2 HB2.out)).mono ?_
 rintro e w3 ⟨u2,rfl,hu2,_,hb3⟩
 have HB3:=hid (HB2.out.trans (hb3.mono HB2.out.size))
 have HPA3:=hid (HPA2.out.under hb3)
 have HSL:=hid (sameList_any (HU1.out.under hb3) hu2)
 rw [decide_eq_true rfl] at HSL
 clear hu2 hb3 HPA2 HU1
 go_wp2_with fail
 refine HSL.out.mono ?_
 rintro e w4 ⟨rfl,hb4⟩
 have HB4:=hid (HB3.out.trans (hb4.mono HB3.out.size))
 have HPA4:=hid (HPA3.out.under hb4)
 clear hb4 HPA3 HSL HB1 HB2 HB3
 have HAPP:Hid (∀ V,Below w.heap.size w V→Calls Tryz.prog 27 #[.pointer (some ⟨q,0,none⟩)] V fun e w'=>e=.returned (.int .i64 I.applied)∧V=w'):=fun V hV=>applied_any (HP.out V hV)
 have HTOP:Hid (∀ V,Below w.heap.size w V→Calls Tryz.prog 28 #[.pointer (some ⟨q,0,none⟩)] V fun e w'=>∃ a c,e=.returned (.slice a I.tops.length c)∧Below V.heap.size V w'):=fun V hV=>by
  refine (ktopics_any (HP.out V hV)).mono ?_
  rintro e w' ⟨v,rfl,hrow,hb⟩
  obtain ⟨oa,cap,e,_⟩:=row_shape (row_base hrow (Nat.zero_le _))
  exact ⟨oa,cap,by rw [e],hb⟩
 obtain ⟨ks,hks⟩:∃ ks,ks=W.strOf (keepI I):=⟨_,rfl⟩
 have HK1:Hid (∀ V,Below w.heap.size w V→Calls Tryz.prog 17 #[.pointer (some ⟨q,0,none⟩)] V fun e w'=>e=.returned (.string ks)∧Below V.heap.size V w'):=fun V hV=>by rw [hks];exact keep_any (HP.out V hV)
 have HK2:Hid (∀ V,Below w.heap.size w V→Calls Tryz.prog 20 #[.pointer (some ⟨r,0,none⟩)] V fun e w'=>e=.returned (.string ks)∧Below V.heap.size V w'):=fun V hV=>by rw [hks];exact rkeepI_any (HD.out V hV)
 clear hks
 have HCS:Hid (∀ V,Below w.heap.size w V→V.cell? ⟨r,0,none⟩=some (.int .i64 I.applied)∧V.cell? ⟨r,2,none⟩=some (.slice ot I.tops.length ct)∧V.cell? ⟨r,3,none⟩=some (.slice op I.parts.length cp)):=fun V hV=>⟨(HD.out V hV).c0,(HD.out V hV).c2,(HD.out V hV).c3⟩
 obtain ⟨d0,d2,d3⟩:=HCS.out w4 HB4.out
 go_upto_region 3 with fail
 go_cut [67] from 29 to 68 (fun s67 V=>s67=.bool false∧Hid (Below w4.heap.size w4 V))
 case first =>
  go_region_held3 (fun V=>V.cell? ⟨r,0,none⟩=some (.int .i64 I.applied)∧V.cell? ⟨r,2,none⟩=some (.slice ot I.tops.length ct)∧V.cell? ⟨r,3,none⟩=some (.slice op I.parts.length cp)) (go_keep)
   (first
    | (go_at_call 27;refine (HAPP.out _ (show Below w.heap.size w _ by repeat (first | exact HB4.out | apply Below.drew))).mono ?_;rintro e w5 ⟨rfl,rfl⟩)
    | (go_at_call 28;refine (HTOP.out _ (show Below w.heap.size w _ by repeat (first | exact HB4.out | apply Below.drew))).mono ?_;rintro e w5 ⟨ta,tk,rfl,hb5⟩;have HN5:=hid ((show Below w4.heap.size w4 _ by repeat (first | exact Below.refl _ _ | apply Below.drew)).trans (hb5.mono (by simp)));clear hb5 d0 d2 d3;obtain ⟨d0,d2,d3⟩:=HCS.out w5 (HB4.out.trans (HN5.out.mono HB4.out.size)))
    | (go_at_call 17;refine (HK1.out _ (HB4.out.trans ((show Below w4.heap.size w4 _ by repeat (first | exact HN5.out | apply Below.drew)).mono HB4.out.size))).mono ?_;rintro e w6 ⟨rfl,hb6⟩;have HN6:=hid ((show Below w4.heap.size w4 _ by repeat (first | exact HN5.out | apply Below.drew)).trans (hb6.mono (by have:=HN5.out.size;simpa using this)));clear hb6 d0 d2 d3;obtain ⟨d0,d2,d3⟩:=HCS.out w6 (HB4.out.trans (HN6.out.mono HB4.out.size)))
    | (go_at_call 20;refine (HK2.out _ (HB4.out.trans ((show Below w4.heap.size w4 _ by repeat (first | exact HN6.out | apply Below.drew)).mono HB4.out.size))).mono ?_;rintro e w7 ⟨rfl,hb7⟩;have HN7:=hid ((show Below w4.heap.size w4 _ by repeat (first | exact HN6.out | apply Below.drew)).trans (hb7.mono (by have:=HN6.out.size;simpa using this)));clear hb7 d0 d2 d3;obtain ⟨d0,d2,d3⟩:=HCS.out w7 (HB4.out.trans (HN7.out.mono HB4.out.size)))
    | fail)
  go_wp2_with fail
  go_meet
  case rel=>exact ⟨rfl,hid (by repeat (first | exact HN7.out | apply Below.drew | apply below_drewN))⟩
 case rest =>
  obtain ⟨rfl,HBc⟩:=hcut
  have HBW:=hid (HB4.out.trans (HBc.out.mono HB4.out.size))
  have HPAW:=hid (HPA4.out.under HBc.out)
  clear d0 d2 d3 HB4 HPA4 HBc HAPP HTOP HK1 HK2
  generalize wc=W at *
  go_wp2_with fail
  go_loopg [7,8,9,10,11] I.parts.length (fun kx s7 s8 s9 s10 s11 wr=>∃ k:Nat,k≤I.parts.length∧I.parts.length - k≤kx∧s7=.int .i64 (k:Int)∧Hid (Below W.heap.size W wr))
  case atStart=>exact ⟨0,Nat.zero_le _,by omega,rfl,Below.refl _ _⟩
  case round =>
   obtain ⟨k,hk,hkx,rfl,HBl⟩:=hrel
   have HBR:=hid (HBW.out.trans (HBl.out.mono HBW.out.size))
   by_cases hlt:k<I.parts.length
   ·have hlt':(k:Int)<(I.parts.length:Int):=by omega
    have hk0:(0:Int)≤(k:Int):=by omega
    have hwk:IntKind.i64.wrap ((k:Int)+1)=(k:Int)+1:=IntWalk.i64_in _ ⟨by omega,by omega⟩
    have HPY:=hid (part_yes (HP.out wr HBR.out) k hlt)
    obtain ⟨ga,capa,xa,hsa,hpma,_,hca⟩:=(HPAW.out.under HBl.out).get k hlt
    simp only [Value.slice.injEq] at hsa
    obtain ⟨hsa,_,hsk⟩:=hsa
    subst hsa
    subst hsk
    obtain ⟨gb,hgb⟩:=HAP.out (by omega)
    subst hgb
    obtain ⟨xb,hpmb,_,hcb⟩:=(HD.out wr HBR.out).pt k hlt
    have d3:=(HD.out wr HBR.out).c3
    generalize I.parts[k]=p at *
    obtain ⟨a1,f1,a2,f2,a3,f3,a4,f4,hxa,_⟩:=hpma.open
    subst hxa
    obtain ⟨b1,e1,b2,e2,b3,e3,b4,e4,hxb,_⟩:=hpmb.open
    subst hxb
    have HPMA:=hid hpma
    have HPMB:=hid hpmb
    have u0:=hca 0 (by decide) _ rfl
    have u1:=hca 1 (by decide) _ rfl
    have u2:=hca 2 (by decide) _ rfl
    have u3:=hca 3 (by decide) _ rfl
    have u4:=hca 4 (by decide) _ rfl
    have u5:=hca 5 (by decide) _ rfl
    have u6:=hca 6 (by decide) _ rfl
    have u7:=hca 7 (by decide) _ rfl
    have u8:=hca 8 (by decide) _ rfl
    have v0:=hcb 0 (by decide) _ rfl
    have v1:=hcb 1 (by decide) _ rfl
    have v2:=hcb 2 (by decide) _ rfl
    have v3:=hcb 3 (by decide) _ rfl
    have v4:=hcb 4 (by decide) _ rfl
    have v5:=hcb 5 (by decide) _ rfl
    have v6:=hcb 6 (by decide) _ rfl
    have v7:=hcb 7 (by decide) _ rfl
    have v8:=hcb 8 (by decide) _ rfl
    rw [Nat.add_zero] at u0 v0
    have HM:Hid (∀ V,Below wr.heap.size wr V→V.cell? ⟨r,3,none⟩=some (.slice (some ⟨gb,0,none⟩) I.parts.length cp)∧(V.cell? ⟨ga,k*9,none⟩=some (.int .i64 p.id)∧V.cell? ⟨ga,k*9+1,none⟩=some (.int .i64 p.leader)∧V.cell? ⟨ga,k*9+2,none⟩=some (.int .i64 p.epoch)∧V.cell? ⟨ga,k*9+3,none⟩=some (.int .i64 p.ver)∧V.cell? ⟨ga,k*9+4,none⟩=some (.slice a1 p.isr.length f1)∧V.cell? ⟨ga,k*9+5,none⟩=some (.slice a2 p.reps.length f2)∧V.cell? ⟨ga,k*9+6,none⟩=some (.slice a3 p.add.length f3)∧V.cell? ⟨ga,k*9+7,none⟩=some (.slice a4 p.rem.length f4)∧V.cell? ⟨ga,k*9+8,none⟩=some (.int .i64 p.min))∧(V.cell? ⟨gb,k*9,none⟩=some (.int .i64 p.id)∧V.cell? ⟨gb,k*9+1,none⟩=some (.int .i64 p.leader)∧V.cell? ⟨gb,k*9+2,none⟩=some (.int .i64 p.epoch)∧V.cell? ⟨gb,k*9+3,none⟩=some (.int .i64 p.ver)∧V.cell? ⟨gb,k*9+4,none⟩=some (.slice b1 p.isr.length e1)∧V.cell? ⟨gb,k*9+5,none⟩=some (.slice b2 p.reps.length e2)∧V.cell? ⟨gb,k*9+6,none⟩=some (.slice b3 p.add.length e3)∧V.cell? ⟨gb,k*9+7,none⟩=some (.slice b4 p.rem.length e4)∧V.cell? ⟨gb,k*9+8,none⟩=some (.int .i64 p.min))):=fun V hV=>⟨kept_cell hV d3,⟨kept_cell hV u0,kept_cell hV u1,kept_cell hV u2,kept_cell hV u3,kept_cell hV u4,kept_cell hV u5,kept_cell hV u6,kept_cell hV u7,kept_cell hV u8⟩,⟨kept_cell hV v0,kept_cell hV v1,kept_cell hV v2,kept_cell hV v3,kept_cell hV v4,kept_cell hV v5,kept_cell hV v6,kept_cell hV v7,kept_cell hV v8⟩⟩
    clear hca hcb hpma hpmb d3 u0 v0 u1 v1 u2 v2 u3 v3 u4 v4 u5 v5 u6 v6 u7 v7 u8 v8
    go_wp2_with fail
    refine HPY.out.mono ?_
    rintro e w5 ⟨pv,rfl,hpm,_,hb5⟩
    obtain ⟨c1,g1,c2,g2,c3,g3,c4,g4,hpv,_⟩:=hpm.open
    subst hpv
    have HB5:=hid hb5
    have HBA:Hid (Below w5.heap.size w5 (w5.alloc (.cells (PP p c1 g1 c2 g2 c3 g3 c4 g4) 54))):=(Below.refl _ _).alloc (Nat.le_refl _) _
    have HBX:Hid ((w5.alloc (.cells (PP p c1 g1 c2 g2 c3 g3 c4 g4) 54)).heap[w5.heap.size]?=some (.cells (PP p c1 g1 c2 g2 c3 g3 c4 g4) 54)):=heap_alloc_new _ _
    have HPM6:=hid (hpm.under HBA.out)
    clear hpm hb5 HPY
    have hsy:=HB5.out.size
    go_upto_region 9 with fail
    generalize w5.alloc (.cells (PP p c1 g1 c2 g2 c3 g3 c4 g4) 54)=w6 at *
    have HYL:Hid (w5.heap.size<w6.heap.size):=(Array.getElem?_eq_some_iff.1 HBX.out).1
    generalize w5.heap.size=y at *
    have HB6:Hid (Below wr.heap.size wr w6):=HB5.out.trans (HBA.out.mono hsy)
    obtain ⟨d3,⟨u0,u1,u2,u3,u4,u5,u6,u7,u8⟩,⟨v0,v1,v2,v3,v4,v5,v6,v7,v8⟩⟩:=HM.out w6 HB6.out
    go_cut [10] from 81 to 93 (fun s10 V=>s10=.bool true∧Hid (Below w6.heap.size w6 V))
    case first =>
     have HSM:=hid (fun U (hU:Below w6.heap.size w6 U)=>rsameP_any ((HPMA.out.under HB6.out).under hU) ((HPMB.out.under HB6.out).under hU))
     rw [sameP_own] at HSM
     go_region_held3 (fun V=>V.cell? ⟨r,3,none⟩=some (.slice (some ⟨gb,0,none⟩) I.parts.length cp)∧V.cell? ⟨ga,k*9,none⟩=some (.int .i64 p.id)∧V.cell? ⟨ga,k*9+1,none⟩=some (.int .i64 p.leader)∧V.cell? ⟨ga,k*9+2,none⟩=some (.int .i64 p.epoch)∧V.cell? ⟨ga,k*9+3,none⟩=some (.int .i64 p.ver)∧V.cell? ⟨ga,k*9+4,none⟩=some (.slice a1 p.isr.length f1)∧V.cell? ⟨ga,k*9+5,none⟩=some (.slice a2 p.reps.length f2)∧V.cell? ⟨ga,k*9+6,none⟩=some (.slice a3 p.add.length f3)∧V.cell? ⟨ga,k*9+7,none⟩=some (.slice a4 p.rem.length f4)∧V.cell? ⟨ga,k*9+8,none⟩=some (.int .i64 p.min)∧V.cell? ⟨gb,k*9,none⟩=some (.int .i64 p.id)∧V.cell? ⟨gb,k*9+1,none⟩=some (.int .i64 p.leader)∧V.cell? ⟨gb,k*9+2,none⟩=some (.int .i64 p.epoch)∧V.cell? ⟨gb,k*9+3,none⟩=some (.int .i64 p.ver)∧V.cell? ⟨gb,k*9+4,none⟩=some (.slice b1 p.isr.length e1)∧V.cell? ⟨gb,k*9+5,none⟩=some (.slice b2 p.reps.length e2)∧V.cell? ⟨gb,k*9+6,none⟩=some (.slice b3 p.add.length e3)∧V.cell? ⟨gb,k*9+7,none⟩=some (.slice b4 p.rem.length e4)∧V.cell? ⟨gb,k*9+8,none⟩=some (.int .i64 p.min)) (go_keep)
      (first
       | (go_at_call 39;refine (HSM.out _ (show Below w6.heap.size w6 _ by repeat (first | exact Below.refl _ _ | apply Below.drew))).mono ?_;rintro e w7 ⟨rfl,hb7⟩;have HN7:=hid ((show Below w6.heap.size w6 _ by repeat (first | exact Below.refl _ _ | apply Below.drew)).trans (hb7.mono (by simp)));clear hb7 d3 u0 u1 u2 u3 u4 u5 u6 u7 u8 v0 v1 v2 v3 v4 v5 v6 v7 v8;obtain ⟨d3,⟨u0,u1,u2,u3,u4,u5,u6,u7,u8⟩,⟨v0,v1,v2,v3,v4,v5,v6,v7,v8⟩⟩:=HM.out w7 (HB6.out.trans (HN7.out.mono HB6.out.size)))
       | fail)
     go_wp2_with fail
     go_meet
     case rel=>exact ⟨rfl,hid (by repeat (first | exact HN7.out | apply Below.drew | apply below_drewN))⟩
    case rest =>
     obtain ⟨rfl,HC⟩:=hcut
     clear d3 u0 v0 u1 v1 u2 v2 u3 v3 u4 v4 u5 v5 u6 v6 u7 v7 u8 v8
     generalize wc=w8 at *
     have HB8:Hid (Below wr.heap.size wr w8):=HB6.out.trans (HC.out.mono HB6.out.size)
     have HBX8:Hid (w8.heap[y]?=some (.cells (PP p c1 g1 c2 g2 c3 g3 c4 g4) 54)):=(HC.out.block y HYL.out).trans HBX.out
     have HYL8:Hid (y<w8.heap.size):=(Array.getElem?_eq_some_iff.1 HBX8.out).1
     obtain ⟨d3,_,⟨v0,v1,v2,v3,v4,v5,v6,v7,v8⟩⟩:=HM.out w8 HB8.out
     obtain ⟨z0,z1,z2,z3,z4,z5,z6,z7,z8⟩:=cells9 HBX8.out
     go_upto_region 10 with fail
     go_cut [11] from 93 to 102 (fun s11 V=>s11=.bool true∧Hid (Below w8.heap.size w8 V))
     case first =>
      have HSM:=hid (fun U (hU:Below w8.heap.size w8 U)=>rsameP_any ((HPM6.out.under HC.out).under hU) ((HPMB.out.under HB8.out).under hU))
      rw [sameP_own] at HSM
      go_region_held3 (fun V=>V.cell? ⟨r,3,none⟩=some (.slice (some ⟨gb,0,none⟩) I.parts.length cp)∧V.cell? ⟨y,0,none⟩=some (.int .i64 p.id)∧V.cell? ⟨y,1,none⟩=some (.int .i64 p.leader)∧V.cell? ⟨y,2,none⟩=some (.int .i64 p.epoch)∧V.cell? ⟨y,3,none⟩=some (.int .i64 p.ver)∧V.cell? ⟨y,4,none⟩=some (.slice c1 p.isr.length g1)∧V.cell? ⟨y,5,none⟩=some (.slice c2 p.reps.length g2)∧V.cell? ⟨y,6,none⟩=some (.slice c3 p.add.length g3)∧V.cell? ⟨y,7,none⟩=some (.slice c4 p.rem.length g4)∧V.cell? ⟨y,8,none⟩=some (.int .i64 p.min)∧V.cell? ⟨gb,k*9,none⟩=some (.int .i64 p.id)∧V.cell? ⟨gb,k*9+1,none⟩=some (.int .i64 p.leader)∧V.cell? ⟨gb,k*9+2,none⟩=some (.int .i64 p.epoch)∧V.cell? ⟨gb,k*9+3,none⟩=some (.int .i64 p.ver)∧V.cell? ⟨gb,k*9+4,none⟩=some (.slice b1 p.isr.length e1)∧V.cell? ⟨gb,k*9+5,none⟩=some (.slice b2 p.reps.length e2)∧V.cell? ⟨gb,k*9+6,none⟩=some (.slice b3 p.add.length e3)∧V.cell? ⟨gb,k*9+7,none⟩=some (.slice b4 p.rem.length e4)∧V.cell? ⟨gb,k*9+8,none⟩=some (.int .i64 p.min)) (go_keep)
       (first
        | (go_at_call 39;refine (HSM.out _ (show Below w8.heap.size w8 _ by repeat (first | exact Below.refl _ _ | apply Below.drew))).mono ?_;rintro e w7 ⟨rfl,hb7⟩;have HN7:=hid ((show Below w8.heap.size w8 _ by repeat (first | exact Below.refl _ _ | apply Below.drew)).trans (hb7.mono (by simp)));clear hb7 d3 v0 v1 v2 v3 v4 v5 v6 v7 v8;obtain ⟨d3,_,⟨v0,v1,v2,v3,v4,v5,v6,v7,v8⟩⟩:=HM.out w7 (HB8.out.trans (HN7.out.mono HB8.out.size));have hz7:=(HN7.out.block y HYL8.out).trans HBX8.out;clear z0 z1 z2 z3 z4 z5 z6 z7 z8;have z0:=cell_blk hz7 0 _ rfl;have z1:=cell_blk hz7 1 _ rfl;have z2:=cell_blk hz7 2 _ rfl;have z3:=cell_blk hz7 3 _ rfl;have z4:=cell_blk hz7 4 _ rfl;have z5:=cell_blk hz7 5 _ rfl;have z6:=cell_blk hz7 6 _ rfl;have z7:=cell_blk hz7 7 _ rfl;have z8:=cell_blk hz7 8 _ rfl;clear hz7)
        | fail)
      go_wp2_with fail
      go_meet
      case rel=>exact ⟨rfl,hid (by repeat (first | exact HN7.out | apply Below.drew | apply below_drewN))⟩
     case rest =>
      obtain ⟨rfl,HC2⟩:=hcut
      have HBE:=hid (HBl.out.trans ((HB8.out.trans (HC2.out.mono HB8.out.size)).mono HBl.out.size))
      clear d3 v0 z0 v1 z1 v2 z2 v3 z3 v4 z4 v5 z5 v6 z6 v7 z7 v8 z8 HC HC2 HBX8 HBX HYL8 HM HPMA HPMB HPM6
      go_wp2_with fail
      go_roundg (I.parts.length - (k+1))
      case measure=>omega
      case rel=>exact ⟨k+1,by omega,Nat.le_refl _,by go_num,HBE.out⟩
   ·have hlt':¬ (k:Int)<(I.parts.length:Int):=by omega
    have HNO:Hid (∀ n,I64 n→upB n I.parts.length=false→∀ V,Below w.heap.size w V→Calls Tryz.prog 30 #[.pointer (some ⟨q,0,none⟩),.int .i64 n] V fun e w'=>e=.returned (.tuple #[.agg PZ,.bool false])∧Below V.heap.size V w'):=fun n hn hu V hV=>part_no (HP.out V hV) n hn hu
    have HN0:=hid (HNO.out 0 (by unfold I64;omega) (by simp [upB]))
    have HN1:=hid (HNO.out ((I.parts.length:Int)+1) (by unfold I64;omega) (by simp [upB];omega))
    have hwl:IntKind.i64.wrap ((I.parts.length:Int)+1)=(I.parts.length:Int)+1:=IntWalk.i64_in _ ⟨by omega,by omega⟩
    clear HNO HPAW hkx hk
    go_wp2_with fail
    refine (HN0.out wr HBR.out).mono ?_
    rintro e w5 ⟨rfl,hb5⟩
    have HB5:=hid (HBR.out.trans (hb5.mono HBR.out.size))
    clear hb5 HN0
    go_upto_region 14 with fail
    refine at_world (F:=Code.wp _ _ _ _) (fun V=>Hid (Below w.heap.size w V)) (HB5.out.alloc (HB5.out.size) _) ?_
    intro w6 HB6
    go_wp2_with fail
    refine (HN1.out w6 HB6.out).mono ?_
    rintro e w7 ⟨rfl,hb7⟩
    have HB7:=hid (HB6.out.trans (hb7.mono HB6.out.size))
    clear hb7 HN1 HB6 HB5 HBR HBl HBW
    go_upto_block 2 with fail
    refine at_world (F:=Code.wp _ _ _ _) (fun V=>Hid (Below w.heap.size w V)) (HB7.out.alloc (HB7.out.size) _) ?_
    intro w8 HB8
    go_wp2_with fail
    go_loopg [16,17,18] I.tops.length (fun kx s16 s17 s18 wr=>∃ k:Nat,k≤I.tops.length∧I.tops.length - k≤kx∧s16=.int .i64 (k:Int)∧Hid (Below w.heap.size w wr))
    case atStart=>exact ⟨0,Nat.zero_le _,by omega,rfl,HB8⟩
    case round =>
     obtain ⟨j,hj,hjx,rfl,HBJ⟩:=hrel
     have d2:=(HD.out wr HBJ.out).c2
     by_cases hlt2:j<I.tops.length
     ·have hlt2':(j:Int)<(I.tops.length:Int):=by omega
      have hj0:(0:Int)≤(j:Int):=by omega
      obtain ⟨gt,hgt⟩:=HAT.out (by omega)
      subst hgt
      obtain ⟨t0,t1,t2⟩:=(HD.out wr HBJ.out).tp j _ (List.getElem?_eq_getElem hlt2)
      have HNUM:=hid (HEACH.out I.tops[j] (List.getElem_mem hlt2))
      have HFI:=hid (fun V hV=>find_yes (HP.out V hV) I.tops[j].name (top_has j hlt2))
      have HONE:=hid (fun t ht hs=>top_one HTN.out.1 j hlt2 (t:=t) ht hs)
      generalize I.tops[j]=T at *
      have hids:=idsT_len HNUM.out.2.2.1
      have HBA:Hid (Below w.heap.size w (wr.alloc (.cells #[.string T.name,.int .i64 T.first,.int .i64 T.count] 80))):=HBJ.out.alloc HBJ.out.size _
      have HBX:Hid ((wr.alloc (.cells #[.string T.name,.int .i64 T.first,.int .i64 T.count] 80)).heap[wr.heap.size]?=some (.cells #[.string T.name,.int .i64 T.first,.int .i64 T.count] 80)):=heap_alloc_new _ _
      go_upto_region 19 with fail
      generalize wr.alloc (.cells #[.string T.name,.int .i64 T.first,.int .i64 T.count] 80)=w9 at *
      have HYL:Hid (wr.heap.size<w9.heap.size):=(Array.getElem?_eq_some_iff.1 HBX.out).1
      generalize wr.heap.size=y at *
      clear d2 t0 t1 t2
      have x0:=cell_blk HBX.out 0 _ rfl
      go_wp2_with fail
      refine (HFI.out w9 HBA.out).mono ?_
      rintro e w10 ⟨fv,T2,rfl,h1,h2,h3,_,hb10⟩
      have hT:=HONE.out T2 h1 h2
      subst hT
      obtain ⟨⟨fa,fc,rfl,_,_,_,hat⟩,_⟩:=h3
      obtain ⟨fb,fo,rfl,_,hf0⟩:=hat hids.2.1
      have f0:=hf0 0 (by have:=hids.1;have:=HNUM.out.2.2.1;omega)
      rw [hids.2.2 _,Nat.add_zero] at f0
      have HBX10:Hid (w10.heap[y]?=some (.cells #[.string T2.name,.int .i64 T2.first,.int .i64 T2.count] 80)):=(hb10.block y HYL.out).trans HBX.out
      have HB10:=hid (HBA.out.trans (hb10.mono HBA.out.size))
      clear x0 hat hf0 h1 h2 hb10 HFI HONE
      have x1:=cell_blk HBX10.out 1 _ rfl
      have x2:=cell_blk HBX10.out 2 _ rfl
      have hl0:(0:Int)<((idsT T2).length:Int):=by have:=HNUM.out.2.2.1;rw [hids.1];omega
      have hne:(((idsT T2).length:Int) != T2.count)=false:=by rw [hids.1];simp
      clear hids
      generalize (idsT T2).length=nl at *
      go_wp2_with fail
      go_quiet (fail)
      go_wp2_with fail
      go_roundg (I.tops.length - (j+1))
      case measure=>omega
      case rel=>exact ⟨j+1,by omega,Nat.le_refl _,by go_num,hid (by repeat (first | exact HB10.out | apply Below.drew | apply below_drewN))⟩
     ·have hlt2':¬ (j:Int)<(I.tops.length:Int):=by omega
      clear HB8 HB7
      go_wp2_with fail
      go_loopg [19,20,21] I.brs.length (fun kx s19 s20 s21 wr=>∃ k:Nat,k≤I.brs.length∧I.brs.length - k≤kx∧s19=.int .i64 (k:Int)∧Hid (Below w.heap.size w wr))
      case atStart=>exact ⟨0,Nat.zero_le _,by omega,rfl,HBJ⟩
      case round =>
       obtain ⟨i,hi,hix,rfl,HBI⟩:=hrel
       clear d2 HBJ
       have d1:=(HD.out wr HBI.out).c1
       by_cases hlt3:i<I.brs.length
       ·have hlt3':(i:Int)<(I.brs.length:Int):=by omega
        have hi0:(0:Int)≤(i:Int):=by omega
        obtain ⟨gr,hgr⟩:=HAB.out (by omega)
        subst hgr
        obtain ⟨b0,b1,_⟩:=(HD.out wr HBI.out).br i _ (List.getElem?_eq_getElem hlt3)
        have hrg:=HOK.out.brs I.brs[i] (List.getElem_mem hlt3)
        have HLF:=hid (life_any (HP.out wr HBI.out) I.brs[i].1 (by unfold I64;omega))
        rw [(got_at HKEY.out i hlt3).1,(got_at HKEY.out i hlt3).2] at HLF
        have HBRI:Hid (∀ V,Below w.heap.size w V→V.cell? ⟨r,1,none⟩=some (.slice (some ⟨gr,0,none⟩) I.brs.length cb)∧V.cell? ⟨gr,i*3+1,none⟩=some (.int .i64 I.brs[i].2.life)):=fun V hV=>⟨(HD.out V hV).c1,((HD.out V hV).br i _ (List.getElem?_eq_getElem hlt3)).2.1⟩
        generalize I.brs[i]=z at *
        go_wp2_with fail
        refine HLF.out.mono ?_
        rintro e w10 ⟨rfl,hb10⟩
        have HB10:=hid (HBI.out.trans (hb10.mono HBI.out.size))
        clear d1 b0 b1 HLF hb10
        obtain ⟨d1,b1⟩:=HBRI.out w10 HB10.out
        go_wp2_with fail
        go_roundg (I.brs.length - (i+1))
        case measure=>omega
        case rel=>exact ⟨i+1,by omega,Nat.le_refl _,by go_num,HB10⟩
       ·have hlt3':¬ (i:Int)<(I.brs.length:Int):=by omega
        go_wp2_with fail
        go_ret
        exact ⟨rfl,HBI.out⟩
end Go.Proofs.YtcffomhcmilcpaaGreat
