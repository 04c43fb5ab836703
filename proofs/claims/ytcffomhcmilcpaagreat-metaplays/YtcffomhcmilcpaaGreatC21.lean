/- Brokers and topics behind a row of bytes. -/
import Derived.Test.YtcffomhcmilcpaaGreatC20
set_option maxRecDepth 100000
set_option maxHeartbeats 20000000
set_option linter.unusedVariables false
set_option linter.unusedSimpArgs false
namespace Go.Proofs.YtcffomhcmilcpaaGreat
open Go.RowKit Go.Maps
theorem ids_in {w:World} {L:Nat→Prop} {q b:Nat} {vt vp ve:Value} {ps:List (Value × Pt)} {I:Im} (h:ImC w L q b vt vp ve ps I):Calls Tryz.prog 63 #[.pointer (some ⟨q,0,none⟩)] w fun e w'=>∃ v,e=.returned v∧IL w' v (I.brs.map (·.1))∧In (fun k=>w.heap.size≤k) v (I.brs.map (·.1))∧Below w.heap.size w w':=by
 have HK:=hid (keys_any (some b) w)
 have HS:=hid (sorted_any h)
 have c1:=h.c1
 have HO:=hid h.ok
 clear h
 go_enter Tryz.func63,Tryz.ntmps63
 go_wp2_with (first | (go_at_call 110;refine HK.out.mono ?_;rintro e w1 ⟨rfl,rfl⟩) | (go_at_call 109;refine HS.out.mono ?_;rintro e w2 ⟨v,rfl,hrow,hb⟩))
 go_ret
 have hl:=keys_few HO.out.keys (fun p hp=>(HO.out.brs p hp).1)
 have:=il_of_row (l:=I.brs.map (·.1)) (by simpa using hrow) (fun x hx=>by
  obtain ⟨p,hp,rfl⟩:=List.mem_map.1 hx
  have:=(HO.out.brs p hp).1
  unfold I64;omega) (by simp;omega)
 exact ⟨v,rfl,this.1,this.2,hb⟩
theorem len_map {w:World} {L:Nat→Prop} {q b:Nat} {vt vp ve:Value} {ps:List (Value × Pt)} {I:Im} (h:ImC w L q b vt vp ve ps I) (ty:TypeId):(Builtin.len_ #[67] ty #[.map (some b)]).run Tryz.prog w=.ok (.int .i64 (I.brs.length:Int)) w:=by
 have:=h.bmap.len Tryz.underlying67 ty
 rw [dmap_size] at this
 exact this
theorem in_beside {w1 w2:World} {v a:Value} {l:List UInt8} {B:Nat} (hr:W.Row w1 B v l) {oa:Option Addr} {n c:Nat} {ns:List Int} (hi:IL w2 (.slice oa ns.length c) ns) (hin:In (fun k=>w1.heap.size≤k) (.slice oa ns.length c) ns):W.IntsIn w2 v oa ns:=by
 obtain ⟨⟨a',cap,e,_,_,_,hat⟩,_,_⟩:=id hi
 obtain ⟨rfl,_,rfl⟩:=Value.slice.inj e
 by_cases hn:ns=[]
 ·exact .inl hn
 ·obtain ⟨b,off,rfl,hb,hc⟩:=hat hn
  have hlt:=hin hn b off _ _ rfl
  exact .inr ⟨b,off,rfl,hb,fun e=>by have:=(World.ownsRow.lt hr b e).2;omega,hc⟩
theorem appBr_any {w0 w:World} {Z:Nat→Prop} {q:Nat} {I:Im} (hi:Img w0 Z q I) {v:Value} {l:List UInt8} (h:KB w0 w v l) (hl:l.length≤500000) :
  Calls Tryz.prog 50 #[.pointer (some ⟨q,0,none⟩),v] w fun e w'=>∃ v',e=.returned v'∧KB w0 w' v' (l++(W.intL (I.brs.length:Int)++brB I.brs)):=by
 obtain ⟨L,b,vt,vp,ve,ps,h0,_,_,_⟩:=hi
 have HI:=hid h0
 have HKY:=hid h0.ok.keys
 have HBR:=hid h0.ok.brs
 have hl7:=keys_few h0.ok.keys (fun p hp=>(h0.ok.brs p hp).1)
 have c1:=(h0.under h.2).c1
 have hlm:=fun ty=>len_map (h0.under h.2) ty
 have hfa:=field93a
 have hfb:=field93b
 have H1:=hid (app_new h [(I.brs.length:Int)] (fun n hn=>by simp at hn;subst hn;unfold I64;omega) (by omega) (by simp) #[.int .i64 (I.brs.length:Int)] rfl 1 rfl)
 obtain ⟨av,cv,e0⟩:=h.shape
 rw [intsL_one] at H1
 have HLN:Hid ((l++W.intL (I.brs.length:Int)).length≤500010):=by
  have:=(W.intL_length (I.brs.length:Int)).2
  show _≤_
  simp only [List.length_append]
  omega
 have HL0:=hid e0
 have HAS:Hid (l++(W.intL (I.brs.length:Int)++brB I.brs)=l++W.intL (I.brs.length:Int)++brB I.brs):=(List.append_assoc _ _ _).symm
 subst e0
 clear h0 h HL0
 generalize hbs:I.brs=bs at *
 go_enter Tryz.func50,Tryz.ntmps50
 go_wp2_with fail
 refine H1.out.mono ?_
 rintro e w1 ⟨v1,rfl,hk1,_⟩
 have HK1:=hid hk1
 obtain ⟨a1,c1',e1⟩:=hk1.shape
 have hln:=HLN.out
 clear hk1 H1 c1 hlm HLN
 generalize l++W.intL (bs.length:Int)=L1 at *
 subst e1
 have H63:=hid (ids_in (HI.out.under HK1.out.2))
 go_wp2_with fail
 refine H63.out.mono ?_
 rintro e w2 ⟨vk,rfl,hil,hin,hb2⟩
 obtain ⟨⟨ak,ck,rfl,hcap,hcm,hnn,hat⟩,hok,hfew⟩:=id hil
 have HA:=hid hat
 have HIN:=hid hin
 have HK2:=hid (HK1.out.under hb2)
 have hll:(I.brs.map (·.1)).length=bs.length:=by rw [hbs];simp
 rw [hll] at hil hin ⊢
 have HBE:Hid (W.IntsIn w2 (.slice a1 L1.length c1') ak (I.brs.map (·.1))):=in_beside (a:=.slice none 0 0) (n:=0) HK1.out.1 (by rw [hll];exact hil) (by rw [hll];exact hin)
 rw [hbs] at HBE
 clear hat hok hnn hcap hcm hfew H63 hb2 hin hil HIN HA HK1 hll
 go_wp2_with fail
 go_loopg [1,19] bs.length (fun kx s1 s19 wr=>∃ k:Nat,k≤bs.length∧bs.length - k≤kx∧s19=.int .i64 (k:Int)∧Hid (KB w0 wr s1 (L1++brB (bs.take k))∧W.IntsIn wr s1 ak (bs.map (·.1)))∧(∃ a n c,s1=.slice a n c))
 case atStart=>exact ⟨0,Nat.zero_le _,by omega,rfl,⟨by simpa [brB] using HK2.out,HBE.out⟩,⟨_,_,_,rfl⟩⟩
 case round =>
  obtain ⟨k,hk,hkx,rfl,HR,⟨sa,sn,sc,rfl⟩⟩:=hrel
  clear HK2 HBE
  by_cases hlt:k<bs.length
  ·have hlt':(k:Int)<(bs.length:Int):=by omega
   obtain ⟨g,off,rfl,hck⟩:=HR.out.2.at k (by simpa using hlt)
   simp only [List.getElem_map] at hck
   have hx:bs[k]?=some bs[k]:=List.getElem?_eq_getElem hlt
   have hv:=valB_at bs HKY.out k _ hx
   have hbr:=HBR.out bs[k] (by simp)
   have hlk:=(HI.out.under HR.out.1.2).look bs[k].1 (by unfold I64;omega)
   rw [hbs,hv] at hlk
   have c1q:=(HI.out.under HR.out.1.2).c1
   have HS:=hid (flat_take brOne bs k hlt)
   have hlen:(L1++brB (bs.take k)).length≤501000:=by
    have:=flat_len brOne 30 (bs.take k) (fun p _=>br_len p)
    have h2:(bs.take k).length≤7:=by simp;omega
    unfold brB
    simp only [List.length_append]
    omega
   have HAP:Hid (∀ z:Int × Br,z=bs[k]→Calls Tryz.prog 49 #[.slice sa sn sc,.slice (some ⟨wr.heap.size,0,none⟩) 3 3] (wr.alloc (.cells #[.int .i64 z.1,.int .i64 z.2.life,.int .i64 (bitI z.2.up)] 3)) fun e w'=>∃ v',e=.returned v'∧KB w0 w' v' (L1++brB (bs.take (k+1)))∧W.IntsIn w' v' (some ⟨g,off,none⟩) (bs.map (·.1))):=fun z hz=>by
    refine (app_new HR.out.1 [z.1,z.2.life,bitI z.2.up] (fun n hn=>?_) (by omega) (by simp) _ rfl 3 rfl).mono ?_
    ·rw [hz] at hn
     simp only [List.mem_cons,List.not_mem_nil,or_false] at hn
     rcases hn with rfl | rfl | rfl
     ·unfold I64;omega
     ·unfold I64;omega
     ·unfold bitI I64;split <;> omega
    ·rintro e w' ⟨v',rfl,k1,k2⟩
     refine ⟨v',rfl,?_,HR.out.2.grow k2⟩
     have e1:brB (bs.take (k+1))=brB (bs.take k)++brOne z:=by rw [hz];exact HS.out
     rw [e1,← List.append_assoc]
     exact k1
   clear HR hx hv hlen HS
   generalize bs[k]=z at *
   have HC:=hid (HAP.out z rfl)
   clear HAP
   obtain ⟨y,lf,u⟩:=z
   simp only [Br.val] at *
   clear hbr
   have e3:bitI true=1:=rfl
   have e4:bitI false=0:=rfl
   cases u with
   | true =>
    rw [e3] at HC
    go_wp2_with fail
    refine HC.out.mono ?_
    rintro e w3 ⟨v3,rfl,hk3,hi3⟩
    have HE:=hid (And.intro hk3 hi3)
    obtain ⟨a3,c3,e5⟩:=hk3.shape
    generalize (L1++brB (bs.take (k+1))).length=N3 at *
    subst e5
    clear hk3 hi3 HC
    go_wp2_with fail
    go_roundg (bs.length - (k+1))
    case measure=>omega
    case rel=>exact ⟨k+1,by omega,Nat.le_refl _,by go_num,HE.out,⟨_,_,_,rfl⟩⟩
   | false =>
    rw [e4] at HC
    go_wp2_with fail
    refine HC.out.mono ?_
    rintro e w3 ⟨v3,rfl,hk3,hi3⟩
    have HE:=hid (And.intro hk3 hi3)
    obtain ⟨a3,c3,e5⟩:=hk3.shape
    generalize (L1++brB (bs.take (k+1))).length=N3 at *
    subst e5
    clear hk3 hi3 HC
    go_wp2_with fail
    go_roundg (bs.length - (k+1))
    case measure=>omega
    case rel=>exact ⟨k+1,by omega,Nat.le_refl _,by go_num,HE.out,⟨_,_,_,rfl⟩⟩
  ·have hlt':¬ (k:Int)<(bs.length:Int):=by omega
   go_wp2_with fail
   go_ret
   have hr:=HR.out.1
   rw [List.take_of_length_le (by omega),← HAS.out] at hr
   exact ⟨_,rfl,hr⟩
theorem appTp_any {w0 w:World} {Z:Nat→Prop} {q:Nat} {I:Im} (hi:Img w0 Z q I) {v:Value} {l:List UInt8} (h:KB w0 w v l) (hl:l.length≤500000) :
  Calls Tryz.prog 51 #[.pointer (some ⟨q,0,none⟩),v] w fun e w'=>∃ v',e=.returned v'∧KB w0 w' v' (l++(W.intL (I.tops.length:Int)++tpB I.tops)):=by
 obtain ⟨L,b,vt,vp,ve,ps,h0,_,_,_⟩:=hi
 have hfew:I.tops.length≤16:=h0.ok.topsFew
 have HNM:=hid h0.ok.name
 have HNU:=hid h0.ok.nums
 obtain ⟨oa,cap,rfl,_,_,_,hat⟩:=row_shape h0.tops
 have HI:=hid h0
 have c2:=(h0.under h.2).c2
 have H1:=hid (app_new h [(I.tops.length:Int)] (fun n hn=>by simp at hn;subst hn;unfold I64;omega) (by omega) (by simp) #[.int .i64 (I.tops.length:Int)] rfl 1 rfl)
 obtain ⟨av,cv,e0⟩:=h.shape
 rw [intsL_one] at H1
 have HLN:Hid ((l++W.intL (I.tops.length:Int)).length≤500010):=by
  have:=(W.intL_length (I.tops.length:Int)).2
  show _≤_
  simp only [List.length_append]
  omega
 have HAS:Hid (l++(W.intL (I.tops.length:Int)++tpB I.tops)=l++W.intL (I.tops.length:Int)++tpB I.tops):=(List.append_assoc _ _ _).symm
 subst e0
 clear h0 h
 go_enter Tryz.func51,Tryz.ntmps51
 go_wp2_with fail
 refine H1.out.mono ?_
 rintro e w1 ⟨v1,rfl,hk1,_⟩
 have HK1:=hid hk1
 obtain ⟨a1,c1',e1⟩:=hk1.shape
 have hln:=HLN.out
 have c2':=(HI.out.under hk1.2).c2
 clear hk1 H1 c2 HLN
 generalize l++W.intL (I.tops.length:Int)=L1 at *
 subst e1
 go_wp2_with fail
 go_loopg [1,20] I.tops.length (fun kx s1 s20 wr=>∃ k:Nat,k≤I.tops.length∧I.tops.length - k≤kx∧s20=.int .i64 (k:Int)∧Hid (KB w0 wr s1 (L1++tpB (I.tops.take k)))∧(∃ a n c,s1=.slice a n c))
 case atStart=>exact ⟨0,Nat.zero_le _,by omega,rfl,hid (by simpa [tpB] using HK1.out),⟨_,_,_,rfl⟩⟩
 case round =>
  obtain ⟨k,hk,hkx,rfl,HR,⟨sa,sn,sc,rfl⟩⟩:=hrel
  clear HK1 c2'
  by_cases hlt:k<I.tops.length
  ·have hlt':(k:Int)<(I.tops.length:Int):=by omega
   obtain ⟨g,rfl⟩:=hat (by omega)
   obtain ⟨k0,k1,k2⟩:=(HI.out.under HR.out.2).top k _ (List.getElem?_eq_getElem hlt)
   have HS:=hid (flat_take tpOne I.tops k hlt)
   have hlen:(L1++tpB (I.tops.take k)).length≤502000:=by
    have:=flat_len tpOne 62 (I.tops.take k) (fun t ht=>tp_len t (HNM.out t (List.mem_of_mem_take ht)))
    have h2:(I.tops.take k).length≤16:=by simp;omega
    unfold tpB
    simp only [List.length_append]
    omega
   have hnm:=HNM.out I.tops[k] (List.getElem_mem hlt)
   have hnu:=HNU.out I.tops[k] (List.getElem_mem hlt)
   have HTE:Hid (L1++tpB (I.tops.take (k+1))=L1++tpB (I.tops.take k)++W.textL I.tops[k].name.data.toList++W.intsL [I.tops[k].first,I.tops[k].count]):=by
    show _=_
    have e1:tpB (I.tops.take (k+1))=tpB (I.tops.take k)++tpOne I.tops[k]:=HS.out
    rw [e1]
    unfold tpOne
    simp only [List.append_assoc]
   obtain ⟨L3,hL3⟩:∃ L3,L3=L1++tpB (I.tops.take (k+1)):=⟨_,rfl⟩
   rw [← hL3] at HTE
   have HL3:=hid hL3
   clear hL3
   generalize L1++tpB (I.tops.take k)=L2 at *
   clear HS
   generalize I.tops[k]=T at *
   have HTX:=hid (appText_any (HR.out.alloc (.cells #[.string T.name,.int .i64 T.first,.int .i64 T.count] 96)) T.name (by omega) (by omega))
   go_wp2_with fail
   refine HTX.out.mono ?_
   rintro e w2 ⟨v2,rfl,hk2,hg2⟩
   obtain ⟨hbox,hne⟩:=box_kept HR.out.1 hg2
   have hc1:w2.cell? ⟨wr.heap.size,1,none⟩=some (.int .i64 T.first):=cell_blk hbox 1 _ rfl
   have hc2:w2.cell? ⟨wr.heap.size,2,none⟩=some (.int .i64 T.count):=cell_blk hbox 2 _ rfl
   have hl2:(L2++W.textL T.name.data.toList).length≤600000:=by
    have h1:=(W.intL_length (T.name.data.toList.length:Int)).2
    have h3:T.name.data.toList.length≤32:=by simpa using hnm
    unfold W.textL
    simp only [List.length_append]
    omega
   have HC:=hid (app_new hk2 [T.first,T.count] (fun n hn=>by
    simp only [List.mem_cons,List.not_mem_nil,or_false] at hn
    rcases hn with rfl | rfl
    ·unfold I64;omega
    ·unfold I64;omega) (by omega) (by simp) #[.int .i64 T.first,.int .i64 T.count] rfl 2 rfl)
   rw [← HTE.out] at HC
   obtain ⟨a2,c2,e2⟩:=hk2.shape
   generalize (L2++W.textL T.name.data.toList).length=N2 at *
   subst e2
   clear hk2 hg2 hbox hne HTX HTE
   go_wp2_with fail
   refine HC.out.mono ?_
   rintro e w3 ⟨v3,rfl,hk3,_⟩
   have HE:=hid hk3
   obtain ⟨a3,c3,e5⟩:=hk3.shape
   generalize hN3:L3.length=N3 at e5
   subst e5
   clear hk3 HC hN3
   go_wp2_with fail
   go_roundg (I.tops.length - (k+1))
   case measure=>omega
   case rel=>exact ⟨k+1,by omega,Nat.le_refl _,by go_num,hid (by rw [← HL3.out];exact HE.out),⟨_,_,_,rfl⟩⟩
  ·have hlt':¬ (k:Int)<(I.tops.length:Int):=by omega
   go_wp2_with fail
   go_ret
   have hr:=HR.out
   rw [List.take_of_length_le (by omega),← HAS.out] at hr
   exact ⟨_,rfl,hr⟩
def LstOut (w0 w:World) (x:Nat) (O:Obj) (v v':Value) (w':World) (l:List UInt8):Prop:=KB w0 w' v' l∧w'.heap[x]?=some O∧v'.ownBlock≠some x∧x<w'.heap.size
theorem lst_step {w0 w:World} {x:Nat} {O:Obj} {v u:Value} {l:List UInt8} (h:LstOut w0 w x O u v w l) {a:Option Addr} {c:Nat} {ns:List Int} (hi:IL w0 (.slice a ns.length c) ns) (hl:l.length≤1000000) (hn:ns.length≤1000) :
  Calls Tryz.prog 53 #[v,.slice a ns.length c] w fun e w'=>∃ v',e=.returned v'∧LstOut w0 w' x O u v' w' (l++lstB ns):=by
 obtain ⟨h1,h2,h3,h4⟩:=h
 refine (appList_any h1 hi hl hn).mono ?_
 rintro e w' ⟨v',rfl,k1,k2⟩
 obtain ⟨g1,g2,g3⟩:=k2.block h4 h3
 exact ⟨v',rfl,k1,g1.trans h2,g2,g3⟩
theorem appPt_any {w0 w:World} {Z:Nat→Prop} {q:Nat} {I:Im} (hi:Img w0 Z q I) {v:Value} {l:List UInt8} (h:KB w0 w v l) (hl:l.length≤500000) :
  Calls Tryz.prog 52 #[.pointer (some ⟨q,0,none⟩),v] w fun e w'=>∃ v',e=.returned v'∧KB w0 w' v' (l++(W.intL (I.parts.length:Int)++ptB I.parts)):=by
 obtain ⟨L,b,vt,vp,ve,ps,h0,_,_,_⟩:=hi
 have hfew:I.parts.length≤16:=h0.ok.few
 have HRI:Hid (∀ p∈I.parts,RightP p):=fun p hp=>by
  obtain ⟨i,hi,e⟩:=List.getElem_of_mem hp
  exact (h0.ok.parts i p (by rw [← e];exact List.getElem?_eq_getElem hi)).1
 have HPL:=hid h0.plen
 obtain ⟨oa,cap,hvp,_,_,_,hat⟩:=row_shape h0.parts
 rw [← HPL.out] at hvp hat
 subst hvp
 have HI:=hid h0
 have c3:=(h0.under h.2).c3
 have H1:=hid (app_new h [(I.parts.length:Int)] (fun n hn=>by simp at hn;subst hn;unfold I64;omega) (by omega) (by simp) #[.int .i64 (I.parts.length:Int)] rfl 1 rfl)
 obtain ⟨av,cv,e0⟩:=h.shape
 rw [intsL_one] at H1
 have HLN:Hid ((l++W.intL (I.parts.length:Int)).length≤500010):=by
  have:=(W.intL_length (I.parts.length:Int)).2
  show _≤_
  simp only [List.length_append]
  omega
 have HAS:Hid (l++(W.intL (I.parts.length:Int)++ptB I.parts)=l++W.intL (I.parts.length:Int)++ptB I.parts):=(List.append_assoc _ _ _).symm
 subst e0
 clear h0 h
 go_enter Tryz.func52,Tryz.ntmps52
 go_wp2_with fail
 refine H1.out.mono ?_
 rintro e w1 ⟨v1,rfl,hk1,_⟩
 have HK1:=hid hk1
 obtain ⟨a1,c1',e1⟩:=hk1.shape
 have hln:=HLN.out
 have c3':=(HI.out.under hk1.2).c3
 clear hk1 H1 c3 HLN
 generalize l++W.intL (I.parts.length:Int)=L1 at *
 subst e1
 go_wp2_with fail
 go_loopg [1,20] I.parts.length (fun kx s1 s20 wr=>∃ k:Nat,k≤I.parts.length∧I.parts.length - k≤kx∧s20=.int .i64 (k:Int)∧Hid (KB w0 wr s1 (L1++ptB (I.parts.take k)))∧(∃ a n c,s1=.slice a n c))
 case atStart=>exact ⟨0,Nat.zero_le _,by omega,rfl,hid (by simpa [ptB] using HK1.out),⟨_,_,_,rfl⟩⟩
 case round =>
  obtain ⟨k,hk,hkx,rfl,HR,⟨sa,sn,sc,rfl⟩⟩:=hrel
  clear HK1 c3'
  by_cases hlt:k<I.parts.length
  ·have hlt':(k:Int)<(I.parts.length:Int):=by omega
   obtain ⟨g,rfl⟩:=hat (by omega)
   have h2:=HI.out.under HR.out.2
   have hxi:ps[k]?=some ps[k]:=List.getElem?_eq_getElem (by rw [← HPL.out];exact hlt)
   have hxc:=fun t ht u hu=>(h2.at_ k _ hxi t ht u hu)
   have hpm:=(HI.out.each ps[k] (by simp)).1
   have hpp:ps[k].2=I.parts[k]:=by
    have e:(ps.map (·.2))[k]?=some I.parts[k]:=by rw [← HI.out.abs];exact List.getElem?_eq_getElem hlt
    rw [List.getElem?_map,hxi] at e
    simpa using e
   rw [hpp] at hpm
   have hri:=HRI.out I.parts[k] (List.getElem_mem hlt)
   have hptl:=pt_len hri
   have HS:=hid (flat_take ptOne I.parts k hlt)
   have hlen:(L1++ptB (I.parts.take k)).length≤600000:=by
    have:=flat_len ptOne 400 (I.parts.take k) (fun t ht=>pt_len (HRI.out t (List.mem_of_mem_take ht)))
    have h2:(I.parts.take k).length≤16:=by simp;omega
    unfold ptB
    simp only [List.length_append]
    omega
   obtain ⟨L3,hL3⟩:∃ L3,L3=L1++ptB (I.parts.take (k+1)):=⟨_,rfl⟩
   have HL3:=hid hL3
   have HTE:Hid (L3=L1++ptB (I.parts.take k)++W.intsL [I.parts[k].leader,I.parts[k].epoch,I.parts[k].ver,I.parts[k].min]++lstB I.parts[k].isr++lstB I.parts[k].reps++lstB I.parts[k].add++lstB I.parts[k].rem):=by
    show _=_
    have e1:ptB (I.parts.take (k+1))=ptB (I.parts.take k)++ptOne I.parts[k]:=HS.out
    rw [hL3,e1]
    unfold ptOne
    simp only [List.append_assoc]
   clear hL3
   generalize L1++ptB (I.parts.take k)=L2 at *
   obtain ⟨a1,c1,a2,c2,a3,c3,a4,c4,hu,j1,j2,j3,j4,k1,k2,k3,k4,k5⟩:=hpm.open
   rw [hu] at hxc
   clear HS hxi hpp hu h2 hpm
   generalize I.parts[k]=P at *
   obtain ⟨pid,pld,pep,pvr,isr,reps,add,rem,mn⟩:=P
   simp only at hxc HTE j1 j2 j3 j4 k1 k2 k3 k4 k5
   have m1:=ids_len hri.isr
   have m2:=ids_len hri.reps
   have m3:=ids_len hri.add
   have m4:=ids_len hri.rem
   simp only at m1 m2 m3 m4
   have r0:=hxc 0 (by decide) _ rfl
   have r1:=hxc 1 (by decide) _ rfl
   have r2:=hxc 2 (by decide) _ rfl
   have r3:=hxc 3 (by decide) _ rfl
   have r4:=hxc 4 (by decide) _ rfl
   have r5:=hxc 5 (by decide) _ rfl
   have r6:=hxc 6 (by decide) _ rfl
   have r7:=hxc 7 (by decide) _ rfl
   have r8:=hxc 8 (by decide) _ rfl
   rw [Nat.add_zero] at r0
   have J1:=hid j1
   have J2:=hid j2
   have J3:=hid j3
   have J4:=hid j4
   clear hxc hri hptl j1 j2 j3 j4
   obtain ⟨O,hO⟩:∃ O,O=Obj.cells (PL pid pld pep pvr a1 isr c1 a2 reps c2 a3 add c3 a4 rem c4 mn) 54:=⟨_,rfl⟩
   go_upto_region 5 with fail
   have HR1:=hid (HR.out.alloc (.cells (PL pid pld pep pvr a1 isr c1 a2 reps c2 a3 add c3 a4 rem c4 mn) 54))
   have HBX:=hid (heap_alloc_new wr (.cells (PL pid pld pep pvr a1 isr c1 a2 reps c2 a3 add c3 a4 rem c4 mn) 54))
   have hxs:wr.heap.size<(wr.alloc (.cells (PL pid pld pep pvr a1 isr c1 a2 reps c2 a3 add c3 a4 rem c4 mn) 54)).heap.size:=by simp
   have HNE:Hid ((Value.slice sa sn sc).ownBlock≠some wr.heap.size):=HR.out.1.fresh
   rw [← hO] at HR1 HBX hxs ⊢
   generalize wr.alloc O=U at *
   generalize wr.heap.size=x at *
   clear r0 r1 r2 r3 r4 r5 r6 r7 r8 HR
   have HCE:Hid (∀ V:World,V.heap[x]?=some O→V.cell? ⟨x,1,none⟩=some (.int .i64 pld)∧V.cell? ⟨x,2,none⟩=some (.int .i64 pep)∧V.cell? ⟨x,3,none⟩=some (.int .i64 pvr)∧V.cell? ⟨x,4,none⟩=some (.slice a1 isr.length c1)∧V.cell? ⟨x,5,none⟩=some (.slice a2 reps.length c2)∧V.cell? ⟨x,6,none⟩=some (.slice a3 add.length c3)∧V.cell? ⟨x,7,none⟩=some (.slice a4 rem.length c4)∧V.cell? ⟨x,8,none⟩=some (.int .i64 mn)):=fun V hV=>by
    rw [hO] at hV
    exact ⟨cell_blk hV 1 _ rfl,cell_blk hV 2 _ rfl,cell_blk hV 3 _ rfl,cell_blk hV 4 _ rfl,cell_blk hV 5 _ rfl,cell_blk hV 6 _ rfl,cell_blk hV 7 _ rfl,cell_blk hV 8 _ rfl⟩
   clear hO
   obtain ⟨q1,q2,q3,_,_,_,_,q8⟩:=HCE.out U HBX.out
   have HA:=hid (app_new HR1.out [pld,pep,pvr,mn] (fun n hn=>by
    simp only [List.mem_cons,List.not_mem_nil,or_false] at hn
    rcases hn with rfl | rfl | rfl | rfl <;> assumption) (by omega) (by simp) #[.int .i64 pld,.int .i64 pep,.int .i64 pvr,.int .i64 mn] rfl 4 rfl)
   obtain ⟨M0,hM0⟩:∃ M,M=L2++W.intsL [pld,pep,pvr,mn]:=⟨_,rfl⟩
   have b0:M0.length≤700000:=by
    have:=W.intsL_length [pld,pep,pvr,mn]
    simp only [List.length_cons,List.length_nil] at this
    rw [hM0]
    simp only [List.length_append]
    omega
   rw [← hM0] at HA HTE
   have n1:=lst_len isr
   have n2:=lst_len reps
   have n3:=lst_len add
   have n4:=lst_len rem
   obtain ⟨M1,hM1⟩:∃ M,M=M0++lstB isr:=⟨_,rfl⟩
   have b1:M1.length≤710000:=by rw [hM1];simp only [List.length_append];omega
   obtain ⟨M2,hM2⟩:∃ M,M=M1++lstB reps:=⟨_,rfl⟩
   have b2:M2.length≤720000:=by rw [hM2];simp only [List.length_append];omega
   obtain ⟨M3,hM3⟩:∃ M,M=M2++lstB add:=⟨_,rfl⟩
   have b3:M3.length≤730000:=by rw [hM3];simp only [List.length_append];omega
   rw [← hM1,← hM2,← hM3] at HTE
   have HS1:Hid (∀ (V:World) (v:Value),LstOut w0 V x O (.bool true) v V M0→Calls Tryz.prog 53 #[v,.slice a1 isr.length c1] V fun e w'=>∃ v',e=.returned v'∧LstOut w0 w' x O (.bool true) v' w' M1):=fun V v hV=>by rw [hM1];exact lst_step hV J1.out (by omega) (by omega)
   have HS2:Hid (∀ (V:World) (v:Value),LstOut w0 V x O (.bool true) v V M1→Calls Tryz.prog 53 #[v,.slice a2 reps.length c2] V fun e w'=>∃ v',e=.returned v'∧LstOut w0 w' x O (.bool true) v' w' M2):=fun V v hV=>by rw [hM2];exact lst_step hV J2.out (by omega) (by omega)
   have HS3:Hid (∀ (V:World) (v:Value),LstOut w0 V x O (.bool true) v V M2→Calls Tryz.prog 53 #[v,.slice a3 add.length c3] V fun e w'=>∃ v',e=.returned v'∧LstOut w0 w' x O (.bool true) v' w' M3):=fun V v hV=>by rw [hM3];exact lst_step hV J3.out (by omega) (by omega)
   have HS4:Hid (∀ (V:World) (v:Value),LstOut w0 V x O (.bool true) v V M3→Calls Tryz.prog 53 #[v,.slice a4 rem.length c4] V fun e w'=>∃ v',e=.returned v'∧LstOut w0 w' x O (.bool true) v' w' L3):=fun V v hV=>by rw [HTE.out];exact lst_step hV J4.out (by omega) (by omega)
   clear hM0 hM1 hM2 hM3 n1 n2 n3 n4 HTE J1 J2 J3 J4
   go_wp2_with fail
   refine HA.out.mono ?_
   rintro e V1 ⟨v1,rfl,hk1,hg1⟩
   have HO1:Hid (LstOut w0 V1 x O (.bool true) v1 V1 M0):=by
    obtain ⟨g1,g2,g3⟩:=hg1.block hxs HNE.out
    exact ⟨hk1,g1.trans HBX.out,g2,g3⟩
   clear hk1 hg1 HA HNE HBX HR1 q1 q2 q3 q8 hxs
   obtain ⟨t1,d1,f1⟩:=HO1.out.1.shape
   obtain ⟨_,_,_,y4,y5,y6,y7,_⟩:=HCE.out V1 HO1.out.2.1
   have HC1:=hid (HS1.out V1 v1 HO1.out)
   generalize M0.length=N1 at f1
   subst f1
   clear HS1 HO1
   go_wp2_with fail
   refine HC1.out.mono ?_
   rintro e V2 ⟨v2,rfl,ho2⟩
   have HO2:=hid ho2
   clear ho2 HC1 y4 y5 y6 y7
   obtain ⟨t2,d2,f2⟩:=HO2.out.1.shape
   obtain ⟨_,_,_,y4,y5,y6,y7,_⟩:=HCE.out V2 HO2.out.2.1
   have HC2:=hid (HS2.out V2 v2 HO2.out)
   generalize M1.length=N2 at f2
   subst f2
   clear HS2 HO2
   go_wp2_with fail
   refine HC2.out.mono ?_
   rintro e V3 ⟨v3,rfl,ho3⟩
   have HO3:=hid ho3
   clear ho3 HC2 y4 y5 y6 y7
   obtain ⟨t3,d3,f3⟩:=HO3.out.1.shape
   obtain ⟨_,_,_,y4,y5,y6,y7,_⟩:=HCE.out V3 HO3.out.2.1
   have HC3:=hid (HS3.out V3 v3 HO3.out)
   generalize M2.length=N3 at f3
   subst f3
   clear HS3 HO3
   go_wp2_with fail
   refine HC3.out.mono ?_
   rintro e V4 ⟨v4,rfl,ho4⟩
   have HO4:=hid ho4
   clear ho4 HC3 y4 y5 y6 y7
   obtain ⟨t4,d4,f4⟩:=HO4.out.1.shape
   obtain ⟨_,_,_,y4,y5,y6,y7,_⟩:=HCE.out V4 HO4.out.2.1
   have HC4:=hid (HS4.out V4 v4 HO4.out)
   generalize M3.length=N4 at f4
   subst f4
   clear HS4 HO4
   go_wp2_with fail
   refine HC4.out.mono ?_
   rintro e V5 ⟨v5,rfl,ho5⟩
   have HO5:=hid ho5
   clear ho5 HC4 y4 y5 y6 y7
   obtain ⟨t5,d5,f5⟩:=HO5.out.1.shape
   have HE:=hid HO5.out.1
   generalize L3.length=N5 at f5
   subst f5
   clear HO5
   go_wp2_with fail
   go_roundg (I.parts.length - (k+1))
   case measure=>omega
   case rel=>exact ⟨k+1,by omega,Nat.le_refl _,by go_num,hid (by rw [← HL3.out];exact HE.out),⟨_,_,_,rfl⟩⟩
  ·have hlt':¬ (k:Int)<(I.parts.length:Int):=by omega
   go_wp2_with fail
   go_ret
   have hr:=HR.out
   rw [List.take_of_length_le (by omega),← HAS.out] at hr
   exact ⟨_,rfl,hr⟩
theorem keep_any {w:World} {Z:Nat→Prop} {q:Nat} {I:Im} (hi:Img w Z q I) :
  Calls Tryz.prog 17 #[.pointer (some ⟨q,0,none⟩)] w fun e w'=>e=.returned (.string (W.strOf (keepI I)))∧Below w.heap.size w w':=by
 have HI:=hid hi
 have hok:=hi.ok
 have hbl:=body_len hok
 have happ:=hok.app
 obtain ⟨L,b,vt,vp,ve,ps,h0,hz0,hz1,hz2⟩:=hi
 have c0:=h0.c0
 have HC4:Hid (∀ U,Below w.heap.size w U→U.cell? ⟨q,4,none⟩=some ve):=fun U hU=>(h0.under hU).c4
 have HIL:Hid (IL w ve I.eps):=(il_of_row h0.eps (fun x hx=>by have:=hok.epv x hx;unfold I64;omega) (by have:=hok.eps;omega)).1
 have hee:=hok.eps
 obtain ⟨oe,ce,rfl,_⟩:=row_shape h0.eps
 have H1:=hid (app_new (w0:=w) ⟨W.Row.nil w w.heap.size,Below.refl _ _⟩ [I.applied] (fun n hn=>by simp at hn;subst hn;unfold I64;omega) (by simp) (by simp) #[.int .i64 I.applied] rfl 1 rfl)
 rw [intsL_one,List.nil_append] at H1
 obtain ⟨B1,hB1⟩:∃ B,B=W.intL I.applied:=⟨_,rfl⟩
 obtain ⟨B2,hB2⟩:∃ B,B=B1++(W.intL (I.brs.length:Int)++brB I.brs):=⟨_,rfl⟩
 obtain ⟨B3,hB3⟩:∃ B,B=B2++(W.intL (I.tops.length:Int)++tpB I.tops):=⟨_,rfl⟩
 obtain ⟨B4,hB4⟩:∃ B,B=B3++(W.intL (I.parts.length:Int)++ptB I.parts):=⟨_,rfl⟩
 obtain ⟨B5,hB5⟩:∃ B,B=B4++lstB I.eps:=⟨_,rfl⟩
 have hbody:bodyI I=B5:=by rw [hB5,hB4,hB3,hB2,hB1];rfl
 have b5:B5.length≤100000:=by rw [← hbody];exact hbl
 have b4:B4.length≤100000:=by rw [hB5] at b5;simp only [List.length_append] at b5;omega
 have b3:B3.length≤100000:=by rw [hB4] at b4;simp only [List.length_append] at b4;omega
 have b2:B2.length≤100000:=by rw [hB3] at b3;simp only [List.length_append] at b3;omega
 have b1:B1.length≤100000:=by rw [hB2] at b2;simp only [List.length_append] at b2;omega
 rw [← hB1] at H1
 have HK:Hid (keepI I=W.sealL B5):=by show _=_;unfold keepI;rw [hbody]
 have S2:Hid (∀ U v,KB w U v B1→Calls Tryz.prog 50 #[.pointer (some ⟨q,0,none⟩),v] U fun e w'=>∃ v',e=.returned v'∧KB w w' v' B2):=fun U v hU=>by rw [hB2];exact appBr_any HI.out hU (by omega)
 have S3:Hid (∀ U v,KB w U v B2→Calls Tryz.prog 51 #[.pointer (some ⟨q,0,none⟩),v] U fun e w'=>∃ v',e=.returned v'∧KB w w' v' B3):=fun U v hU=>by rw [hB3];exact appTp_any HI.out hU (by omega)
 have S4:Hid (∀ U v,KB w U v B3→Calls Tryz.prog 52 #[.pointer (some ⟨q,0,none⟩),v] U fun e w'=>∃ v',e=.returned v'∧KB w w' v' B4):=fun U v hU=>by rw [hB4];exact appPt_any HI.out hU (by omega)
 have S5:Hid (∀ U v,KB w U v B4→Calls Tryz.prog 53 #[v,.slice oe I.eps.length ce] U fun e w'=>∃ v',e=.returned v'∧KB w w' v' B5):=fun U v hU=>by
  rw [hB5]
  refine (appList_any hU HIL.out (by omega) (by omega)).mono ?_
  rintro e w' ⟨v',rfl,k1,_⟩
  exact ⟨v',rfl,k1⟩
 have S6:=hid (fun U=>W.pseal_any B5 U (by omega))
 rw [HK.out]
 clear hB1 hB2 hB3 hB4 hB5 hbody HI hok hbl h0 HIL HK hz0 hz1 hz2
 go_enter Tryz.func17,Tryz.ntmps17
 go_wp2_with fail
 refine H1.out.mono ?_
 rintro e U1 ⟨v1,rfl,k1,_⟩
 have K1:=hid k1
 obtain ⟨x1,y1,f1⟩:=k1.shape
 have C1:=hid (S2.out U1 v1 k1)
 generalize B1.length=N1 at f1
 subst f1
 clear k1 H1 c0 K1 S2
 go_wp2_with fail
 refine C1.out.mono ?_
 rintro e U2 ⟨v2,rfl,k2⟩
 obtain ⟨x2,y2,f2⟩:=k2.shape
 have C2:=hid (S3.out U2 v2 k2)
 generalize B2.length=N2 at f2
 subst f2
 clear k2 C1 S3
 go_wp2_with fail
 refine C2.out.mono ?_
 rintro e U3 ⟨v3,rfl,k3⟩
 obtain ⟨x3,y3,f3⟩:=k3.shape
 have C3:=hid (S4.out U3 v3 k3)
 generalize B3.length=N3 at f3
 subst f3
 clear k3 C2 S4
 go_wp2_with fail
 refine C3.out.mono ?_
 rintro e U4 ⟨v4,rfl,k4⟩
 obtain ⟨x4,y4,f4⟩:=k4.shape
 have C4:=hid (S5.out U4 v4 k4)
 have c4:=HC4.out U4 k4.2
 generalize B4.length=N4 at f4
 subst f4
 clear k4 C3 S5
 go_wp2_with fail
 refine C4.out.mono ?_
 rintro e U5 ⟨v5,rfl,k5⟩
 have K5:=hid k5
 obtain ⟨x5,y5,f5⟩:=k5.shape
 clear k5 C4 c4
 subst f5
 have hcv:=W.Row.conv K5.out.1
 have HBE:=hid K5.out.2
 have S7:=hid (S6.out U5)
 clear K5
 generalize B5.length=N5 at *
 go_wp2_with fail
 refine S7.out.mono ?_
 rintro e U6 ⟨rfl,hb6⟩
 have HB6:=hid (HBE.out.trans (hb6.mono HBE.out.size))
 clear hb6 S7 HBE
 go_wp2_with fail
 go_ret
 exact ⟨rfl,HB6.out⟩
theorem IS.keep {w U:World} {q:Nat} {I:Im} {X:Nat→Prop} (h:IS w U q I X):Calls Tryz.prog 17 #[.pointer (some ⟨q,0,none⟩)] U fun e w'=>e=.returned (.string (W.strOf (keepI I)))∧Below U.heap.size U w'∧IS w w' q I X:=by
 obtain ⟨⟨Z,h1,h2⟩,h3,h4⟩:=h
 refine (keep_any h1).mono ?_
 rintro e w' ⟨rfl,hb⟩
 exact ⟨rfl,hb,IS.under ⟨⟨Z,h1,h2⟩,h3,h4⟩ hb⟩
end Go.Proofs.YtcffomhcmilcpaaGreat
