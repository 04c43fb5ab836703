/- The document's Keep. -/
import Derived.Test.YtcffomhcmilcpaaGreatC20
import Derived.Test.YtcffomhcmilcpaaGreatC21
import Derived.Test.YtcffomhcmilcpaaGreatC22
set_option maxRecDepth 100000
set_option maxHeartbeats 20000000
set_option linter.unusedVariables false
set_option linter.unusedSimpArgs false
namespace Go.Proofs.YtcffomhcmilcpaaGreat
open Go.RowKit Go.Maps
theorem DC.tp {w:World} {L:Nat→Prop} {q:Nat} {vb vp ve:Value} {ps:List (Value × Pt)} {I:Im} {g n c:Nat} (h:DC w L q vb (.slice (some ⟨g,0,none⟩) n c) vp ve ps I) (k:Nat) (x:Tp) (hx:I.tops[k]?=some x):w.cell? ⟨g,k*3,none⟩=some (.string x.name)∧w.cell? ⟨g,k*3+1,none⟩=some (.int .i64 x.first)∧w.cell? ⟨g,k*3+2,none⟩=some (.int .i64 x.count):=by
 obtain ⟨h1,h2,h3⟩:=flatT_get I.tops k x hx
 have c:=fun j u hu=>World.ownsRow.cells h.tops (g:=g) rfl j u hu
 have a:∀ j,(⟨g,0,none⟩:Addr).add j=⟨g,j,none⟩:=fun j=>by rw [add_at,Nat.zero_add]
 refine ⟨?_,?_,?_⟩
 ·rw [← a];exact c _ _ h1
 ·rw [← a];exact c _ _ h2
 ·rw [← a];exact c _ _ h3
theorem DC.pt {w:World} {L:Nat→Prop} {q:Nat} {vb vt ve:Value} {ps:List (Value × Pt)} {I:Im} {g n c:Nat} (h:DC w L q vb vt (.slice (some ⟨g,0,none⟩) n c) ve ps I) (k:Nat) (hk:k<I.parts.length):∃ v,PartM w v I.parts[k]∧InP L v I.parts[k]∧∀ t,t<9→∀ u,(pc v)[t]?=some u→w.cell? ⟨g,k*9+t,none⟩=some u:=by
 have hkp:k<ps.length:=by rw [← h.plen];exact hk
 have e:ps[k].2=I.parts[k]:=by simp [h.abs]
 obtain ⟨h1,h2⟩:=h.each ps[k] (List.getElem_mem hkp)
 rw [e] at h1 h2
 have h9:∀ x∈ps,(pc x.1).length=9:=fun x hx=>pc_part (h.each x hx).1
 refine ⟨ps[k].1,h1,h2,fun t ht u hu=>?_⟩
 have hc:=World.ownsRow.cells h.parts (g:=g) rfl (k*9+t) u (by rw [flatP_get ps k t h9 ht,List.getElem?_eq_getElem hkp];exact hu)
 rw [add_at,Nat.zero_add] at hc
 exact hc
theorem strOf_name (s:ByteArray):W.strOf s.data.toList=s:=by cases s;simp [W.strOf]
theorem rkeepI_any {w:World} {L:Nat→Prop} {q:Nat} {vb vt vp ve:Value} {ps:List (Value × Pt)} {I:Im} (h:DC w L q vb vt vp ve ps I):Calls Tryz.prog 20 #[.pointer (some ⟨q,0,none⟩)] w fun e w'=>e=.returned (.string (W.strOf (keepI I)))∧Below w.heap.size w w':=by
 obtain ⟨KS,hKS⟩:∃ KS,W.strOf (keepI I)=KS:=⟨_,rfl⟩
 rw [hKS]
 have HKS:=hid hKS
 clear hKS
 have hl7:=keys_few h.ok.keys (fun p hp=>(h.ok.brs p hp).1)
 have hbl:=body_len h.ok
 have HO:=hid h.ok
 have happ:=h.ok.app
 have hqlt:=h.lt (.inl rfl)
 obtain ⟨ob,cb,rfl,_,_,_,hatb⟩:=row_shape h.brs
 obtain ⟨ot,ct,rfl,_,_,_,hatt⟩:=row_shape h.tops
 have HPL:=hid h.plen
 obtain ⟨op,cp,hvp,_,_,_,hatp⟩:=row_shape h.parts
 rw [← HPL.out] at hvp hatp
 subst hvp
 have HI:=hid h
 have hc0:=h.c0
 have hc1:=h.c1
 have HINT:Hid (∀ (n:Int) (U:World),I64 n→Calls Tryz.prog 58 #[.int .i64 n] U fun e w'=>e=.returned (.string (W.strOf (W.intL n)))∧Below U.heap.size U w'):=fun n U hn=>W.rint_any n U hn
 have ia:I64 I.applied:=by unfold I64;omega
 have ib:I64 (I.brs.length:Int):=by unfold I64;omega
 obtain ⟨B1,hB1⟩:∃ B,B=W.intL I.applied++W.intL (I.brs.length:Int):=⟨_,rfl⟩
 have hb1:B1.length≤20:=by
  have h1:=(W.intL_length I.applied).2
  have h2:=(W.intL_length (I.brs.length:Int)).2
  rw [hB1]
  simp only [List.length_append]
  omega
 obtain ⟨S1,hS1,t1,t2⟩:=sfit (W.intL I.applied) (W.intL (I.brs.length:Int)) _ rfl (by have h1:=(W.intL_length I.applied).2;have h2:=(W.intL_length (I.brs.length:Int)).2;omega)
 rw [← hB1] at hS1
 have HS1:=hid hS1
 have HB1:=hid hB1
 clear h hS1 hB1
 go_enter Tryz.func20,Tryz.ntmps20
 go_upto_region 1 with fail
 go_cut [3] from 11 to 22 (fun s3 V=>s3=.string S1∧Hid (Below w.heap.size w V))
 case first =>
  have HB0:=hid (Below.refl w.heap.size w)
  go_region_held3 (fun w'=>w'.cell? ⟨q,0,none⟩=some (.int .i64 I.applied)∧w'.cell? ⟨q,1,none⟩=some (.slice ob I.brs.length cb)) (go_keep)
   (first
   | (go_at_call 58;refine (HINT.out _ _ (by assumption)).mono ?_;rintro e U1 ⟨rfl,hb⟩;replace hc0:=kept_cell hb hc0;replace hc1:=kept_cell hb hc1;replace HB0:Hid (Below w.heap.size w U1):=hid (Below.trans (by first | exact HB0.out | exact HB0.out.drew) (hb.mono HB0.out.size));clear hb)
   | fail)
  all_goals
   go_wp2_with fail
   go_meet
   case rel=>exact ⟨rfl,HB0.out⟩
 case rest =>
  obtain ⟨rfl,HBV⟩:=hcut
  clear hc0 hc1 t1 t2 ia ib
  generalize hwc:wc=V0 at *
  clear hwc
  go_wp2_with fail
  rw [HS1.out]
  go_loopg [3,4] I.brs.length (fun kx s3 s4 wr=>∃ k:Nat,k≤I.brs.length∧I.brs.length - k≤kx∧s4=.int .i64 (k:Int)∧s3=.string (W.strOf (B1++brB (I.brs.take k)))∧Hid (Below w.heap.size w wr))
  case atStart=>exact ⟨0,Nat.zero_le _,by omega,rfl,by simp [brB],HBV.out⟩
  case round =>
   obtain ⟨k,hk,hkx,rfl,rfl,HBW⟩:=hrel
   have d1:=(HI.out.under HBW.out).c1
   by_cases hlt:k<I.brs.length
   ·have hlt':(k:Int)<(I.brs.length:Int):=by omega
    obtain ⟨g,rfl⟩:=hatb (by omega)
    obtain ⟨b0,b1,b2⟩:=(HI.out.under HBW.out).br k _ (List.getElem?_eq_getElem hlt)
    have hbr:=HO.out.brs I.brs[k] (List.getElem_mem hlt)
    have hlen:(B1++brB (I.brs.take k)).length≤1000:=by
     have:=flat_len brOne 30 (I.brs.take k) (fun p _=>br_len p)
     have h2:(I.brs.take k).length≤7:=by simp;omega
     unfold brB
     simp only [List.length_append]
     omega
    have HTE:Hid (B1++brB (I.brs.take (k+1))=B1++brB (I.brs.take k)++W.intL I.brs[k].1++W.intL I.brs[k].2.life++W.intL (bitI I.brs[k].2.up)):=by
     show _=_
     have e1:brB (I.brs.take (k+1))=brB (I.brs.take k)++brOne I.brs[k]:=flat_take brOne I.brs k hlt
     rw [e1]
     unfold brOne
     simp [W.intsL,List.append_assoc]
    generalize I.brs[k]=z at *
    obtain ⟨y,lf,u⟩:=z
    simp only at b0 b1 b2 hbr HTE
    obtain ⟨⟨y1,y2⟩,l1,l2⟩:=hbr
    have iy:I64 y:=by unfold I64;omega
    have il:I64 lf:=by unfold I64;omega
    have iu:I64 (bitI u):=by unfold bitI I64;split <;> omega
    have n1:=(W.intL_length y).2
    have n2:=(W.intL_length lf).2
    have n3:=(W.intL_length (bitI u)).2
    generalize B1++brB (I.brs.take k)=C0 at *
    obtain ⟨T1,hT1,f1,g1⟩:=sfit C0 (W.intL y) _ rfl (by omega)
    obtain ⟨T2,hT2,f2,g2⟩:=sfit (C0++W.intL y) (W.intL lf) _ hT1 (by simp only [List.length_append];omega)
    obtain ⟨T3,hT3,f3,g3⟩:=sfit (C0++W.intL y++W.intL lf) (W.intL (bitI u)) _ hT2 (by simp only [List.length_append];omega)
    have HT3:Hid (T3=W.strOf (B1++brB (I.brs.take (k+1)))):=by show _=_;rw [hT3,HTE.out]
    clear hT1 hT2 hT3 HTE n1 n2 n3 hlen
    have e0:bitI true=1:=rfl
    have e1:bitI false=0:=rfl
    cases u with
    | true =>
     rw [e0] at iu f3 g3
     clear e0 e1
     go_upto_region 9 with fail
     have HBX:=hid (heap_alloc_new wr (.cells #[.int .i64 y,.int .i64 lf,.bool true] 72))
     have HB0:Hid (Below w.heap.size w (wr.alloc (.cells #[.int .i64 y,.int .i64 lf,.bool true] 72))):=HBW.out.alloc HBW.out.size _
     generalize wr.alloc (.cells #[.int .i64 y,.int .i64 lf,.bool true] 72)=V at *
     generalize wr.heap.size=x at *
     have x0:=cell_blk HBX.out 0 (.int .i64 y) rfl
     have x1:=cell_blk HBX.out 1 (.int .i64 lf) rfl
     clear HBX b0 b1 b2 d1 HBW
     generalize W.strOf C0=S0 at *
     go_region_held3 (fun w'=>w'.cell? ⟨x,0,none⟩=some (.int .i64 y)∧w'.cell? ⟨x,1,none⟩=some (.int .i64 lf)) (go_keep)
      (first
      | (go_at_call 58;refine (HINT.out _ _ (by assumption)).mono ?_;rintro e U1 ⟨rfl,hb⟩;replace x0:=kept_cell hb x0;replace x1:=kept_cell hb x1;replace HB0:Hid (Below w.heap.size w U1):=hid (Below.trans (by first | exact HB0.out | exact HB0.out.drew) (hb.mono HB0.out.size));clear hb)
      | fail)
     all_goals
      go_wp2_with fail
      go_roundg (I.brs.length - (k+1))
      case measure=>omega
      case rel=>exact ⟨k+1,by omega,Nat.le_refl _,by go_num,by rw [HT3.out],HB0.out⟩
    | false =>
     rw [e1] at iu f3 g3
     clear e0 e1
     go_upto_region 9 with fail
     have HBX:=hid (heap_alloc_new wr (.cells #[.int .i64 y,.int .i64 lf,.bool false] 72))
     have HB0:Hid (Below w.heap.size w (wr.alloc (.cells #[.int .i64 y,.int .i64 lf,.bool false] 72))):=HBW.out.alloc HBW.out.size _
     generalize wr.alloc (.cells #[.int .i64 y,.int .i64 lf,.bool false] 72)=V at *
     generalize wr.heap.size=x at *
     have x0:=cell_blk HBX.out 0 (.int .i64 y) rfl
     have x1:=cell_blk HBX.out 1 (.int .i64 lf) rfl
     clear HBX b0 b1 b2 d1 HBW
     generalize W.strOf C0=S0 at *
     go_region_held3 (fun w'=>w'.cell? ⟨x,0,none⟩=some (.int .i64 y)∧w'.cell? ⟨x,1,none⟩=some (.int .i64 lf)) (go_keep)
      (first
      | (go_at_call 58;refine (HINT.out _ _ (by assumption)).mono ?_;rintro e U1 ⟨rfl,hb⟩;replace x0:=kept_cell hb x0;replace x1:=kept_cell hb x1;replace HB0:Hid (Below w.heap.size w U1):=hid (Below.trans (by first | exact HB0.out | exact HB0.out.drew) (hb.mono HB0.out.size));clear hb)
      | fail)
     all_goals
      go_wp2_with fail
      go_roundg (I.brs.length - (k+1))
      case measure=>omega
      case rel=>exact ⟨k+1,by omega,Nat.le_refl _,by go_num,by rw [HT3.out],HB0.out⟩
   ·have hlt':¬ (k:Int)<(I.brs.length:Int):=by omega
    have HC1:Hid (B1++brB (I.brs.take k)=B1++brB I.brs):=by show _=_;rw [List.take_of_length_le (by omega)]
    rw [HC1.out]
    have d2:=(HI.out.under HBW.out).c2
    clear hk hkx hlt HC1 HBV
    have htf:I.tops.length≤16:=HO.out.topsFew
    have it:I64 (I.tops.length:Int):=by unfold I64;omega
    have hlb:=brs_len HO.out
    have n0:=(W.intL_length (I.tops.length:Int)).2
    obtain ⟨B2,hB2⟩:∃ B,B=B1++brB I.brs++W.intL (I.tops.length:Int):=⟨_,rfl⟩
    obtain ⟨S2,hS2,t1,t2⟩:=sfit (B1++brB I.brs) (W.intL (I.tops.length:Int)) _ rfl (by simp only [List.length_append];omega)
    rw [← hB2] at hS2
    have HS2:=hid hS2
    have hb2:B2.length≤1000:=by rw [hB2];simp only [List.length_append];omega
    have HB2:=hid hB2
    clear hS2 hB2 n0 hlb
    generalize W.strOf (B1++brB I.brs)=S0 at *
    generalize wr=V1 at *
    go_wp2_with fail
    refine (HINT.out _ _ it).mono ?_
    rintro e U2 ⟨rfl,hb⟩
    have HBU:Hid (Below w.heap.size w U2):=HBW.out.trans (hb.mono HBW.out.size)
    clear hb d1 d2 HBW it
    go_wp2_with fail
    rw [HS2.out]
    clear t1 t2
    go_loopg [3,7] I.tops.length (fun kx s3 s7 wr=>∃ k:Nat,k≤I.tops.length∧I.tops.length - k≤kx∧s7=.int .i64 (k:Int)∧s3=.string (W.strOf (B2++tpB (I.tops.take k)))∧Hid (Below w.heap.size w wr))
    case atStart=>exact ⟨0,Nat.zero_le _,by omega,rfl,by simp [tpB],HBU.out⟩
    case round =>
     obtain ⟨k,hk,hkx,rfl,rfl,HBW⟩:=hrel
     have d2:=(HI.out.under HBW.out).c2
     by_cases hlt:k<I.tops.length
     ·have hlt':(k:Int)<(I.tops.length:Int):=by omega
      obtain ⟨g,rfl⟩:=hatt (by omega)
      obtain ⟨b0,b1,b2⟩:=(HI.out.under HBW.out).tp k _ (List.getElem?_eq_getElem hlt)
      have hnu:=HO.out.nums I.tops[k] (List.getElem_mem hlt)
      have hnm:=HO.out.name I.tops[k] (List.getElem_mem hlt)
      have hlen:(B2++tpB (I.tops.take k)).length≤3000:=by
       have:=flat_len tpOne 62 (I.tops.take k) (fun t ht=>tp_len t (HO.out.name t (List.mem_of_mem_take ht)))
       have h2:(I.tops.take k).length≤16:=by simp;omega
       unfold tpB
       simp only [List.length_append]
       omega
      have HTE:Hid (B2++tpB (I.tops.take (k+1))=B2++tpB (I.tops.take k)++W.intL (I.tops[k].name.size:Int)++I.tops[k].name.data.toList++W.intL I.tops[k].first++W.intL I.tops[k].count):=by
       show _=_
       have e1:tpB (I.tops.take (k+1))=tpB (I.tops.take k)++tpOne I.tops[k]:=flat_take tpOne I.tops k hlt
       rw [e1]
       unfold tpOne W.textL
       simp [W.intsL,List.append_assoc]
      generalize I.tops[k]=T at *
      have iz:I64 (T.name.size:Int):=by unfold I64;omega
      have if1:I64 T.first:=by unfold I64;omega
      have ic:I64 T.count:=by unfold I64;omega
      have n1:=(W.intL_length (T.name.size:Int)).2
      have n2:=(W.intL_length T.first).2
      have n3:=(W.intL_length T.count).2
      have n4:T.name.data.toList.length≤32:=by simpa using hnm
      generalize B2++tpB (I.tops.take k)=C0 at *
      obtain ⟨T1,hT1,f1,g1⟩:=sfit C0 (W.intL (T.name.size:Int)) _ rfl (by omega)
      obtain ⟨T2,hT2,f2,g2⟩:=sfit (C0++W.intL (T.name.size:Int)) T.name.data.toList _ hT1 (by simp only [List.length_append];omega)
      rw [strOf_name] at f2 g2
      obtain ⟨T3,hT3,f3,g3⟩:=sfit (C0++W.intL (T.name.size:Int)++T.name.data.toList) (W.intL T.first) _ hT2 (by simp only [List.length_append];omega)
      obtain ⟨T4,hT4,f4,g4⟩:=sfit (C0++W.intL (T.name.size:Int)++T.name.data.toList++W.intL T.first) (W.intL T.count) _ hT3 (by simp only [List.length_append];omega)
      have HT4:Hid (T4=W.strOf (B2++tpB (I.tops.take (k+1)))):=by show _=_;rw [hT4,HTE.out]
      clear hT1 hT2 hT3 hT4 HTE n1 n2 n3 n4 hlen
      go_upto_region 15 with fail
      have HBX:=hid (heap_alloc_new wr (.cells #[.string T.name,.int .i64 T.first,.int .i64 T.count] 80))
      have HB0:Hid (Below w.heap.size w (wr.alloc (.cells #[.string T.name,.int .i64 T.first,.int .i64 T.count] 80))):=HBW.out.alloc HBW.out.size _
      generalize wr.alloc (.cells #[.string T.name,.int .i64 T.first,.int .i64 T.count] 80)=V at *
      generalize wr.heap.size=x at *
      have x0:=cell_blk HBX.out 0 (.string T.name) rfl
      have x1:=cell_blk HBX.out 1 (.int .i64 T.first) rfl
      have x2:=cell_blk HBX.out 2 (.int .i64 T.count) rfl
      clear HBX b0 b1 b2 d2 HBW
      generalize W.strOf C0=S0 at *
      go_region_held3 (fun w'=>w'.cell? ⟨x,0,none⟩=some (.string T.name)∧w'.cell? ⟨x,1,none⟩=some (.int .i64 T.first)∧w'.cell? ⟨x,2,none⟩=some (.int .i64 T.count)) (go_keep)
       (first
       | (go_at_call 58;refine (HINT.out _ _ (by assumption)).mono ?_;rintro e U1 ⟨rfl,hb⟩;replace x0:=kept_cell hb x0;replace x1:=kept_cell hb x1;replace x2:=kept_cell hb x2;replace HB0:Hid (Below w.heap.size w U1):=hid (Below.trans (by first | exact HB0.out | exact HB0.out.drew) (hb.mono HB0.out.size));clear hb)
       | fail)
      all_goals
       go_wp2_with fail
       go_roundg (I.tops.length - (k+1))
       case measure=>omega
       case rel=>exact ⟨k+1,by omega,Nat.le_refl _,by go_num,by rw [HT4.out],HB0.out⟩
     ·have hlt':¬ (k:Int)<(I.tops.length:Int):=by omega
      have HC1:Hid (B2++tpB (I.tops.take k)=B2++tpB I.tops):=by show _=_;rw [List.take_of_length_le (by omega)]
      rw [HC1.out]
      have d3:=(HI.out.under HBW.out).c3
      clear hk hkx hlt HC1 HBU
      have hpf:I.parts.length≤16:=HO.out.few
      have ip:I64 (I.parts.length:Int):=by unfold I64;omega
      have hlt2:=tps_len HO.out
      have n0:=(W.intL_length (I.parts.length:Int)).2
      obtain ⟨B3,hB3⟩:∃ B,B=B2++tpB I.tops++W.intL (I.parts.length:Int):=⟨_,rfl⟩
      obtain ⟨S3,hS3,t1,t2⟩:=sfit (B2++tpB I.tops) (W.intL (I.parts.length:Int)) _ rfl (by simp only [List.length_append];omega)
      rw [← hB3] at hS3
      have HS3:=hid hS3
      have hb3:B3.length≤3000:=by rw [hB3];simp only [List.length_append];omega
      have HB3:=hid hB3
      clear hS3 hB3 n0 hlt2
      generalize W.strOf (B2++tpB I.tops)=S0 at *
      generalize wr=V2 at *
      go_wp2_with fail
      refine (HINT.out _ _ ip).mono ?_
      rintro e U3 ⟨rfl,hb⟩
      have HBU:Hid (Below w.heap.size w U3):=HBW.out.trans (hb.mono HBW.out.size)
      clear hb d2 d3 HBW ip
      go_wp2_with fail
      rw [HS3.out]
      clear t1 t2
      have HLST:Hid (∀ (a:Option Addr) (c:Nat) (ns:List Int) (U:World),(IL w (.slice a ns.length c) ns∧ns.length≤1000)→Below w.heap.size w U→Calls Tryz.prog 59 #[.slice a ns.length c] U fun e w'=>e=.returned (.string (W.strOf (lstB ns)))∧Below U.heap.size U w'):=fun a c ns U hp hU=>rlist_any (hp.1.under hU) hp.2
      go_loopg [3,9] I.parts.length (fun kx s3 s9 wr=>∃ k:Nat,k≤I.parts.length∧I.parts.length - k≤kx∧s9=.int .i64 (k:Int)∧s3=.string (W.strOf (B3++ptB (I.parts.take k)))∧Hid (Below w.heap.size w wr))
      case atStart=>exact ⟨0,Nat.zero_le _,by omega,rfl,by simp [ptB],HBU.out⟩
      case round =>
       obtain ⟨k,hk,hkx,rfl,rfl,HBW⟩:=hrel
       have d3:=(HI.out.under HBW.out).c3
       by_cases hlt:k<I.parts.length
       ·have hlt':(k:Int)<(I.parts.length:Int):=by omega
        obtain ⟨g,rfl⟩:=hatp (by omega)
        obtain ⟨v,hpm,_,hxc⟩:=HI.out.pt k hlt
        have hri:=right_mem HO.out (List.getElem_mem hlt)
        have hlen:(B3++ptB (I.parts.take k)).length≤10000:=by
         have:=flat_len ptOne 400 (I.parts.take k) (fun t ht=>pt_len (right_mem HO.out (List.mem_of_mem_take ht)))
         have h2:(I.parts.take k).length≤16:=by simp;omega
         unfold ptB
         simp only [List.length_append]
         omega
        have HTE:Hid (B3++ptB (I.parts.take (k+1))=B3++ptB (I.parts.take k)++W.intL I.parts[k].leader++W.intL I.parts[k].epoch++W.intL I.parts[k].ver++W.intL I.parts[k].min++lstB I.parts[k].isr++lstB I.parts[k].reps++lstB I.parts[k].add++lstB I.parts[k].rem):=by
         show _=_
         have e1:ptB (I.parts.take (k+1))=ptB (I.parts.take k)++ptOne I.parts[k]:=flat_take ptOne I.parts k hlt
         rw [e1]
         unfold ptOne
         simp [W.intsL,List.append_assoc]
        have hxc5:=fun t ht u hu=>kept_cell HBW.out (hxc t ht u hu)
        generalize I.parts[k]=P at *
        obtain ⟨pid,pld,pep,pvr,isr,reps,add,rem,mn⟩:=P
        obtain ⟨a1,c1,a2,c2,a3,c3,a4,c4,hv,j1,j2,j3,j4,i0,i1,i2,i3,i4⟩:=hpm.open
        subst hv
        simp only at HTE j1 j2 j3 j4 i0 i1 i2 i3 i4 hxc5
        have m1:=ids_len hri.isr
        have m2:=ids_len hri.reps
        have m3:=ids_len hri.add
        have m4:=ids_len hri.rem
        simp only at m1 m2 m3 m4
        have p1:IL w (.slice a1 isr.length c1) isr∧isr.length≤1000:=⟨j1,by omega⟩
        have p2:IL w (.slice a2 reps.length c2) reps∧reps.length≤1000:=⟨j2,by omega⟩
        have p3:IL w (.slice a3 add.length c3) add∧add.length≤1000:=⟨j3,by omega⟩
        have p4:IL w (.slice a4 rem.length c4) rem∧rem.length≤1000:=⟨j4,by omega⟩
        have P1:=hid p1
        have P2:=hid p2
        have P3:=hid p3
        have P4:=hid p4
        have n1:=(W.intL_length pld).2
        have n2:=(W.intL_length pep).2
        have n3:=(W.intL_length pvr).2
        have n4:=(W.intL_length mn).2
        have n5:=lst_len isr
        have n6:=lst_len reps
        have n7:=lst_len add
        have n8:=lst_len rem
        have r0:=hxc5 0 (by decide) _ rfl
        have r1:=hxc5 1 (by decide) _ rfl
        have r2:=hxc5 2 (by decide) _ rfl
        have r3:=hxc5 3 (by decide) _ rfl
        have r4:=hxc5 4 (by decide) _ rfl
        have r5:=hxc5 5 (by decide) _ rfl
        have r6:=hxc5 6 (by decide) _ rfl
        have r7:=hxc5 7 (by decide) _ rfl
        have r8:=hxc5 8 (by decide) _ rfl
        rw [Nat.add_zero] at r0
        generalize B3++ptB (I.parts.take k)=C0 at *
        obtain ⟨T1,hT1,f1,g1⟩:=sfit (C0) (W.intL pld) _ rfl (by first | omega | (simp only [List.length_append];omega))
        obtain ⟨T2,hT2,f2,g2⟩:=sfit (C0++W.intL pld) (W.intL pep) _ hT1 (by simp only [List.length_append];omega)
        obtain ⟨T3,hT3,f3,g3⟩:=sfit (C0++W.intL pld++W.intL pep) (W.intL pvr) _ hT2 (by simp only [List.length_append];omega)
        obtain ⟨T4,hT4,f4,g4⟩:=sfit (C0++W.intL pld++W.intL pep++W.intL pvr) (W.intL mn) _ hT3 (by simp only [List.length_append];omega)
        obtain ⟨T5,hT5,f5,g5⟩:=sfit (C0++W.intL pld++W.intL pep++W.intL pvr++W.intL mn) (lstB isr) _ hT4 (by simp only [List.length_append];omega)
        obtain ⟨T6,hT6,f6,g6⟩:=sfit (C0++W.intL pld++W.intL pep++W.intL pvr++W.intL mn++lstB isr) (lstB reps) _ hT5 (by simp only [List.length_append];omega)
        obtain ⟨T7,hT7,f7,g7⟩:=sfit (C0++W.intL pld++W.intL pep++W.intL pvr++W.intL mn++lstB isr++lstB reps) (lstB add) _ hT6 (by simp only [List.length_append];omega)
        obtain ⟨T8,hT8,f8,g8⟩:=sfit (C0++W.intL pld++W.intL pep++W.intL pvr++W.intL mn++lstB isr++lstB reps++lstB add) (lstB rem) _ hT7 (by simp only [List.length_append];omega)
        have HT8:Hid (T8=W.strOf (B3++ptB (I.parts.take (k+1)))):=by show _=_;rw [hT8,HTE.out]
        clear hT1 hT2 hT3 hT4 hT5 hT6 hT7 hT8 HTE n1 n2 n3 n4 n5 n6 n7 n8 hlen hxc hxc5 hpm hri m1 m2 m3 m4 j1 j2 j3 j4 p1 p2 p3 p4
        go_upto_region 21 with fail
        have HBX:=hid (heap_alloc_new wr (.cells (PL pid pld pep pvr a1 isr c1 a2 reps c2 a3 add c3 a4 rem c4 mn) 54))
        have HB0:Hid (Below w.heap.size w (wr.alloc (.cells (PL pid pld pep pvr a1 isr c1 a2 reps c2 a3 add c3 a4 rem c4 mn) 54))):=HBW.out.alloc HBW.out.size _
        generalize wr.alloc (.cells (PL pid pld pep pvr a1 isr c1 a2 reps c2 a3 add c3 a4 rem c4 mn) 54)=V at *
        generalize wr.heap.size=x at *
        have x1:=cell_blk HBX.out 1 (.int .i64 pld) rfl
        have x2:=cell_blk HBX.out 2 (.int .i64 pep) rfl
        have x3:=cell_blk HBX.out 3 (.int .i64 pvr) rfl
        have x4:=cell_blk HBX.out 4 (.slice a1 isr.length c1) rfl
        have x5:=cell_blk HBX.out 5 (.slice a2 reps.length c2) rfl
        have x6:=cell_blk HBX.out 6 (.slice a3 add.length c3) rfl
        have x7:=cell_blk HBX.out 7 (.slice a4 rem.length c4) rfl
        have x8:=cell_blk HBX.out 8 (.int .i64 mn) rfl
        clear HBX r0 r1 r2 r3 r4 r5 r6 r7 r8 d3 HBW
        generalize W.strOf C0=S0 at *
        go_region_held3 (fun w'=>w'.cell? ⟨x,1,none⟩=some (.int .i64 pld)∧w'.cell? ⟨x,2,none⟩=some (.int .i64 pep)∧w'.cell? ⟨x,3,none⟩=some (.int .i64 pvr)∧w'.cell? ⟨x,4,none⟩=some (.slice a1 isr.length c1)∧w'.cell? ⟨x,5,none⟩=some (.slice a2 reps.length c2)∧w'.cell? ⟨x,6,none⟩=some (.slice a3 add.length c3)∧w'.cell? ⟨x,7,none⟩=some (.slice a4 rem.length c4)∧w'.cell? ⟨x,8,none⟩=some (.int .i64 mn)) (go_keep)
         (first
         | (go_at_call 58;refine (HINT.out _ _ (by assumption)).mono ?_;rintro e U1 ⟨rfl,hb⟩;replace x1:=kept_cell hb x1;replace x2:=kept_cell hb x2;replace x3:=kept_cell hb x3;replace x4:=kept_cell hb x4;replace x5:=kept_cell hb x5;replace x6:=kept_cell hb x6;replace x7:=kept_cell hb x7;replace x8:=kept_cell hb x8;replace HB0:Hid (Below w.heap.size w U1):=hid (Below.trans (by first | exact HB0.out | exact HB0.out.drew) (hb.mono HB0.out.size));clear hb)
         | (go_at_call 59;refine (HLST.out _ _ _ _ (by first | exact P1.out | exact P2.out | exact P3.out | exact P4.out) (by first | exact HB0.out | exact HB0.out.drew)).mono ?_;rintro e U1 ⟨rfl,hb⟩;replace x1:=kept_cell hb x1;replace x2:=kept_cell hb x2;replace x3:=kept_cell hb x3;replace x4:=kept_cell hb x4;replace x5:=kept_cell hb x5;replace x6:=kept_cell hb x6;replace x7:=kept_cell hb x7;replace x8:=kept_cell hb x8;replace HB0:Hid (Below w.heap.size w U1):=hid (Below.trans (by first | exact HB0.out | exact HB0.out.drew) (hb.mono HB0.out.size));clear hb)
         | fail)
        all_goals
         go_wp2_with fail
         go_roundg (I.parts.length - (k+1))
         case measure=>omega
         case rel=>exact ⟨k+1,by omega,Nat.le_refl _,by go_num,by rw [HT8.out],HB0.out⟩
       ·have hlt':¬ (k:Int)<(I.parts.length:Int):=by omega
        have HC1:Hid (B3++ptB (I.parts.take k)=B3++ptB I.parts):=by show _=_;rw [List.take_of_length_le (by omega)]
        rw [HC1.out]
        have d4:=(HI.out.under HBW.out).c4
        clear hk hkx hlt HC1 HBU
        have hee:=HO.out.eps
        have HIE:Hid (IL w ve I.eps):=(il_of_row HI.out.eps (fun x hx=>by have:=HO.out.epv x hx;unfold I64;omega) (by omega)).1
        obtain ⟨oe,ce,hve,_⟩:=row_shape HI.out.eps
        subst hve
        have HBY:Hid (bodyI I=B3++ptB I.parts++lstB I.eps):=by
         show _=_
         unfold bodyI
         rw [HB3.out,HB2.out,HB1.out]
         simp [List.append_assoc]
        have hlp:=pts_len HO.out
        have n5:=lst_len I.eps
        obtain ⟨S4,hS4,t1,t2⟩:=sfit (B3++ptB I.parts) (lstB I.eps) _ rfl (by simp only [List.length_append];omega)
        rw [← HBY.out] at hS4
        have HS4:=hid hS4
        have HSU:=hid (fun U=>rsummed_any (bodyI I) U (by omega))
        have HKP:Hid (W.sealL (bodyI I)=keepI I):=rfl
        rw [HKP.out,HKS.out] at HSU
        clear hS4 n5 hlp HKP
        generalize W.strOf (B3++ptB I.parts)=S0 at *
        generalize hwr:wr=V3 at *
        clear hwr
        go_wp2_with fail
        refine (HLST.out _ _ _ _ ⟨HIE.out,by omega⟩ HBW.out).mono ?_
        rintro e U4 ⟨rfl,hb⟩
        have HB4:Hid (Below w.heap.size w U4):=HBW.out.trans (hb.mono HBW.out.size)
        clear hb d4 HBW
        go_upto_region 23 with fail
        rw [HS4.out]
        go_wp2_with fail
        refine (HSU.out _).mono ?_
        rintro e U5 ⟨rfl,hb⟩
        have HB5:Hid (Below w.heap.size w U5):=HB4.out.trans (hb.mono HB4.out.size)
        clear hb HB4
        go_wp2_with fail
        go_ret
        exact ⟨rfl,HB5.out⟩
end Go.Proofs.YtcffomhcmilcpaaGreat
