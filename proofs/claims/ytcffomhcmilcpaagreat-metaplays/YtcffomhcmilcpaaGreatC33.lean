/- Brokers are read back. -/
import Derived.Test.YtcffomhcmilcpaaGreatC32
import Derived.Test.YtcffomhcmilcpaaGreatC4
import Derived.Test.YtcffomhcmilcpaaGreatC10
set_option maxRecDepth 100000
set_option maxHeartbeats 20000000
set_option linter.unusedVariables false
set_option linter.unusedSimpArgs false
namespace Go.Proofs.YtcffomhcmilcpaaGreat
open Go.RowKit Go.Maps
theorem insB_last (x:Int × Br):∀ bs:BM,(∀ p∈bs,p.1<x.1)→insB x bs=bs++[x]
 | [],_=>rfl
 | y :: r,h=>by
  have h1:=h y (by simp)
  unfold insB
  rw [if_neg (by omega),insB_last x r (fun p hp=>h p (by simp [hp]))]
  rfl
theorem putB_last {bs:BM} {n:Int} {b:Br} (h:∀ p∈bs,p.1<n):putB bs n b=bs++[(n,b)]:=by
 unfold putB
 have e:delB bs n=bs:=by
  unfold delB
  refine List.filter_eq_self.2 fun p hp=>?_
  have:=h p hp
  simp
  omega
 rw [e,insB_last (n,b) bs h]
theorem put_take {bs:BM} (hk:bs.Pairwise (fun p q=>p.1<q.1)) {k:Nat} (h:k<bs.length):putB (bs.take k) bs[k].1 bs[k].2=bs.take (k+1):=by
 rw [putB_last (fun p hp=>?_),List.take_succ_eq_append_getElem h]
 obtain ⟨i,hi,e⟩:=List.mem_take_iff_getElem.1 hp
 have:=List.pairwise_iff_getElem.1 hk i k (by omega) h (by omega)
 rw [← e]
 exact this
@[reducible] def wBr (J:Im) (bs:BM):Im:={ J with brs:=bs }
theorem flat_drop {α:Type} (f:α→List UInt8) (l:List α) (k:Nat) (h:k<l.length):((l.drop k).map f).flatten=f l[k]++((l.drop (k+1)).map f).flatten:=by
 rw [List.drop_eq_getElem_cons h,List.map_cons,List.flatten_cons]
theorem bit_one (u:Bool):bitI u=0∧u=false∨bitI u=1∧u=true:=by cases u <;> simp [bitI]
theorem readBrs_any {w U:World} {Z:Nat→Prop} {q x:Nat} {J:Im} {bs:BM} {l:List UInt8} (h:LS w U Z q x (wBr J []) (W.intL (bs.length:Int)++(brB bs++l))) (hk:bs.Pairwise (fun p q=>p.1<q.1)) (hb:∀ p∈bs,(1≤p.1∧p.1≤7)∧1≤p.2.life∧p.2.life≤1000000000) :
  Calls Tryz.prog 44 #[.pointer (some ⟨q,0,none⟩),.pointer (some ⟨x,0,none⟩)] U fun e w'=>e=.returned (.bool true)∧LS w w' Z q x (wBr J bs) l:=by
 have hl7:=keys_few hk (fun p hp=>(hb p hp).1)
 have HC:=hid (h.count (n:=(bs.length:Int)) (most:=7) ⟨by omega,by omega⟩ (by omega))
 have HK:=hid hk
 have HB:=hid hb
 clear h hk hb
 go_enter Tryz.func44,Tryz.ntmps44
 go_wp2_with fail
 refine HC.out.mono ?_
 rintro e U1 ⟨rfl,ho⟩
 have H0:Hid (LS w U1 Z q x (wBr J (bs.take 0)) (((bs.drop 0).map brOne).flatten++l)):=ho.1
 clear ho HC
 go_wp2_with fail
 go_loopg [5,11] bs.length (fun kx s5 s11 wr=>∃ (k:Nat) (lst:Int),k≤bs.length∧bs.length - k≤kx∧s5=.int .i64 lst∧s11=.int .i64 (k:Int)∧Hid (∀ hk:k<bs.length,lst<bs[k].1)∧Hid (LS w wr Z q x (wBr J (bs.take k)) (((bs.drop k).map brOne).flatten++l)))
 case atStart=>exact ⟨0,0,Nat.zero_le _,by omega,rfl,rfl,fun hk=>by have:=(HB.out bs[0] (by simp)).1;omega,H0.out⟩
 case round =>
  obtain ⟨k,lst,hk,hkx,rfl,rfl,HLT,HR⟩:=hrel
  clear H0
  by_cases hlt:k<bs.length
  ·have hlt':(k:Int)<(bs.length:Int):=by omega
   have hls:=HLT.out hlt
   have hbr:=HB.out bs[k] (by simp)
   have HR0:Hid (LS w wr Z q x (wBr J (bs.take k)) (W.intL bs[k].1++(W.intL bs[k].2.life++(W.intL (bitI bs[k].2.up)++(((bs.drop (k+1)).map brOne).flatten++l))))):=by
    have:=HR.out
    rw [flat_drop brOne bs k hlt] at this
    have e:brOne bs[k]++((bs.drop (k+1)).map brOne).flatten++l=W.intL bs[k].1++(W.intL bs[k].2.life++(W.intL (bitI bs[k].2.up)++(((bs.drop (k+1)).map brOne).flatten++l))):=by
     unfold brOne
     simp [W.intsL,List.append_assoc]
    show LS _ _ _ _ _ _ _
    rw [← e]
    exact this
   have HPT:=hid (put_take HK.out hlt)
   have HNX:Hid (∀ hk:k+1<bs.length,bs[k].1<bs[k+1].1):=fun h2=>List.pairwise_iff_getElem.1 HK.out k (k+1) hlt h2 (by omega)
   generalize bs[k]=z at *
   obtain ⟨y,lf,u⟩:=z
   simp only at hls hbr HR0 HPT HNX
   obtain ⟨⟨y1,y2⟩,l1,l2⟩:=hbr
   have hyI:I64 y:=by unfold I64;omega
   have hlI:I64 lf:=by unfold I64;omega
   have huI:I64 (bitI u):=by unfold bitI I64;split <;> omega
   clear HR HLT
   go_wp2_with fail
   refine (HR0.out.int hyI).mono ?_
   rintro e V1 ⟨rfl,o1⟩
   have HR1:=hid o1.1
   clear o1 HR0
   go_wp2_with fail
   refine (HR1.out.int hlI).mono ?_
   rintro e V2 ⟨rfl,o2⟩
   have HR2:=hid o2.1
   clear o2 HR1
   go_wp2_with fail
   refine (HR2.out.int huI).mono ?_
   rintro e V3 ⟨rfl,o3⟩
   have HR3:=hid o3.1
   clear o3 HR2
   have hn:¬ (y≤lst):=by omega
   have u1:upB y 7=true:=upB_iff.2 ⟨y1,y2⟩
   have u2:upB lf 1000000000=true:=upB_iff.2 ⟨l1,l2⟩
   have HC1:=hid (broker_any y V3 hyI)
   have HC2:=hid (upTo_any lf 1000000000 V3 hlI (by unfold I64;omega))
   rw [u1] at HC1
   rw [u2] at HC2
   clear u1 u2
   obtain ⟨⟨⟨L,b,vt,vp,ve,ps,h1,hz1,hz2,hz3⟩,h2⟩,h3,h4,h5⟩:=HR3.out
   have c1:=h1.c1
   obtain ⟨w',hrun,hI',hg⟩:=h1.put (n:=y) (x:=⟨lf,u⟩) ⟨y1,y2⟩ ⟨l1,l2⟩
   have hbx:b≠x:=(h2 b (hz1 b (.inr (.inl rfl)))).2
   have hbw:w.heap.size≤b:=(h2 b (hz1 b (.inr (.inl rfl)))).1
   have HN:Hid (LS w w' Z q x (wBr J (bs.take (k+1))) (((bs.drop (k+1)).map brOne).flatten++l)):=by
    refine ⟨⟨⟨L,b,vt,vp,ve,ps,?_,hz1,hz2,fun j hj=>Nat.lt_of_lt_of_le (hz3 j hj) hg.size⟩,h2⟩,h3.kept (hg.block x h3.lt (fun e=>hbx (by cases e;rfl))),h4,h5.grown hg h5.size (fun j hj=>by cases hj;exact hbw)⟩
    have:=hI'
    simp only [HPT.out] at this
    exact this
   clear hI' hg h1 h2 h3 h4 h5 hz1 hz2 hz3 HPT HR3 hbx hbw
   simp only [Br.val] at hrun
   rcases bit_one u with ⟨e1,e2⟩ | ⟨e1,e2⟩
   ·rw [e1]
    subst e2
    go_wp2_with fail
    refine HC1.out.mono ?_
    rintro e w1 ⟨rfl,rfl⟩
    go_wp2_with fail
    refine HC2.out.mono ?_
    rintro e w1 ⟨rfl,rfl⟩
    go_wp2_with fail
    go_roundg (bs.length - (k+1))
    case measure=>omega
    case rel=>exact ⟨k+1,y,by omega,Nat.le_refl _,rfl,by go_num,HNX.out,HN.out⟩
   ·rw [e1]
    subst e2
    go_wp2_with fail
    refine HC1.out.mono ?_
    rintro e w1 ⟨rfl,rfl⟩
    go_wp2_with fail
    refine HC2.out.mono ?_
    rintro e w1 ⟨rfl,rfl⟩
    go_wp2_with fail
    go_roundg (bs.length - (k+1))
    case measure=>omega
    case rel=>exact ⟨k+1,y,by omega,Nat.le_refl _,rfl,by go_num,HNX.out,HN.out⟩
  ·have hlt':¬ (k:Int)<(bs.length:Int):=by omega
   obtain rfl:k=bs.length:=by omega
   have HE:Hid (LS w wr Z q x (wBr J bs) l):=by
    have:=HR.out
    rw [List.take_length,List.drop_length] at this
    exact this
   clear HR
   go_wp2_with fail
   go_ret
   exact ⟨rfl,HE.out⟩
def nxT (ts:List Tp):Int:=match ts.getLast? with | none=>1 | some t=>t.first+t.count
theorem nextPart_any {w:World} {L:Nat→Prop} {q b:Nat} {vt vp ve:Value} {ps:List (Value × Pt)} {I:Im} (h:ImC w L q b vt vp ve ps I):Calls Tryz.prog 94 #[.pointer (some ⟨q,0,none⟩)] w fun e w'=>e=.returned (.int .i64 (nxT I.tops))∧Below w.heap.size w w':=by
 have hfew:I.tops.length≤16:=h.ok.topsFew
 obtain ⟨oa,cap,rfl,_,_,_,hat⟩:=row_shape h.tops
 have HI:=hid h
 have c2:=h.c2
 have hqlt:=h.lt (.inl rfl)
 clear h
 by_cases h0:I.tops.length=0
 ·have HN:Hid (nxT I.tops=1):=by
   show _=_
   rw [List.eq_nil_of_length_eq_zero h0]
   rfl
  have h0':((I.tops.length:Int) == 0)=true:=by simp [h0]
  have h0'':(I.tops.length == 0)=true:=by simp [h0]
  rw [HN.out]
  go_enter Tryz.func94,Tryz.ntmps94
  go_wp2_with fail
  go_ret
  exact ⟨rfl,Below.refl _ _⟩
 ·obtain ⟨n,hn⟩:∃ n,I.tops.length=n+1:=⟨I.tops.length - 1,by omega⟩
  obtain ⟨g,rfl⟩:=hat (by omega)
  have hlt:n<I.tops.length:=by omega
  obtain ⟨k0,k1,k2⟩:=HI.out.top n _ (List.getElem?_eq_getElem hlt)
  have hnu:=HI.out.ok.nums I.tops[n] (List.getElem_mem hlt)
  have HN:Hid (nxT I.tops=I.tops[n].first+I.tops[n].count):=by
   show _=_
   unfold nxT
   have:I.tops.getLast?=some I.tops[n]:=by
    rw [List.getLast?_eq_getElem?,List.getElem?_eq_getElem (by omega)]
    congr 2
    omega
   rw [this]
  rw [HN.out]
  have hgl:g<w.heap.size:=World.block_lt_of_cell? w _ k0
  generalize I.tops[n]=T at *
  have h0':((I.tops.length:Int) == 0)=false:=beq_eq_false_iff_ne.2 (by omega)
  have h0'':(I.tops.length == 0)=false:=beq_eq_false_iff_ne.2 (by omega)
  have hw1:IntKind.i64.wrap ((I.tops.length:Int) - 1)=(n:Int):=by rw [show (I.tops.length:Int) - 1=(n:Int) by omega];exact IntWalk.i64_in _ ⟨by omega,by omega⟩
  have hn0:(n:Int)<(I.tops.length:Int):=by omega
  have hn1:(0:Int)≤(n:Int):=by omega
  have hws:IntKind.i64.wrap (T.first+T.count)=T.first+T.count:=IntWalk.i64_in _ ⟨by omega,by omega⟩
  generalize I.tops.length=N at *
  clear hn h0 hlt HI HN hat
  have ne1:¬ q=w.heap.size:=by omega
  have ne2:¬ g=w.heap.size:=by omega
  have ne3:¬ w.heap.size=q:=by omega
  have ne4:¬ w.heap.size=g:=by omega
  go_enter Tryz.func94,Tryz.ntmps94
  go_upto_region 3 with fail
  go_cut [3] from 10 to 21 (fun s3 V=>∃ y,s3=.pointer (some ⟨y,0,none⟩)∧Hid (V.heap[y]?=some (.cells #[.string T.name,.int .i64 T.first,.int .i64 T.count] 96))∧Hid (Below w.heap.size w V))
  case first =>
   go_region_held3 (fun w'=>w'.cell? ⟨q,2,none⟩=some (.slice (some ⟨g,0,none⟩) N cap)∧w'.cell? ⟨g,n*3,none⟩=some (.string T.name)∧w'.cell? ⟨g,n*3+1,none⟩=some (.int .i64 T.first)∧w'.cell? ⟨g,n*3+2,none⟩=some (.int .i64 T.count)) (go_keep) (fail)
   all_goals
    go_wp2_with fail
    go_meet
    case rel=>exact ⟨w.heap.size,rfl,hid (by first | exact heap_alloc_new _ _ | exact heap_alloc_new w.drew _),hid (by first | exact ((Below.refl _ _).alloc (Nat.le_refl _) _).drew | exact (Below.refl _ _).drew.alloc (Nat.le_refl _) _ | exact (Below.refl _ _).alloc (Nat.le_refl _) _)⟩
  case rest =>
   obtain ⟨y,rfl,HY,HBV⟩:=hcut
   have r1:=cell_blk HY.out 1 _ rfl
   have r2:=cell_blk HY.out 2 _ rfl
   go_wp2_with fail
   go_ret
   exact ⟨rfl,HBV.out⟩
@[reducible] def pTx0:Oper:={ dst:=some 41,op:=Op.move (Operand.tmp 0),type:=25,pos:= "bytes.go:91",after:=#[],guard:=none }
@[reducible] def pTx1:Oper:={ dst:=some 42,op:=Op.move (Operand.tmp 0),type:=25,pos:= "bytes.go:91",after:=#[],guard:=none }
@[reducible] def pTx2:Oper:={ dst:=some 43,op:=Op.nilCheck (Operand.tmp 42),type:=0,pos:= "bytes.go:91",after:=#[{ on:=1,ground:=Ground.data }],guard:=none }
@[reducible] def pTx3:Oper:={ dst:=some 44,op:=Op.fieldAddr 70 (Operand.tmp 43) 2,type:=0,pos:= "bytes.go:91",after:=#[{ on:=2,ground:=Ground.data }],guard:=none }
@[reducible] def pTx4:Oper:={ dst:=some 45,op:=Op.load 68 (Operand.tmp 44),type:=68,pos:= "bytes.go:91",after:=#[{ on:=3,ground:=Ground.data }],guard:=none }
@[reducible] def pTx5:Oper:={ dst:=some 46,op:=Op.load 96 (Operand.tmp 5),type:=96,pos:= "bytes.go:91",after:=#[],guard:=none }
@[reducible] def pTx6:Oper:={ dst:=some 47,op:=Op.buildSlice 68 1 #[(0,Operand.tmp 46)],type:=68,pos:= "bytes.go:91",after:=#[{ on:=5,ground:=Ground.data }],guard:=none }
@[reducible] def pTx7:Oper:={ dst:=some 48,op:=Op.call ({ callee:=Callee.builtin Builtin.append,args:=#[Operand.tmp 45,Operand.tmp 47],argTypes:=#[68,68] }),type:=68,pos:= "bytes.go:91",after:=#[{ on:=4,ground:=Ground.data },{ on:=6,ground:=Ground.data }],guard:=none }
@[reducible] def pTx8:Oper:={ dst:=some 49,op:=Op.nilCheck (Operand.tmp 41),type:=0,pos:= "bytes.go:91",after:=#[{ on:=0,ground:=Ground.data },{ on:=0,ground:=Ground.phase },{ on:=1,ground:=Ground.phase },{ on:=2,ground:=Ground.phase },{ on:=3,ground:=Ground.phase },{ on:=4,ground:=Ground.phase },{ on:=5,ground:=Ground.phase },{ on:=6,ground:=Ground.phase },{ on:=7,ground:=Ground.phase }],guard:=none }
@[reducible] def pTx9:Oper:={ dst:=some 50,op:=Op.fieldAddr 70 (Operand.tmp 49) 2,type:=0,pos:= "bytes.go:91",after:=#[{ on:=8,ground:=Ground.data },{ on:=0,ground:=Ground.phase },{ on:=1,ground:=Ground.phase },{ on:=2,ground:=Ground.phase },{ on:=3,ground:=Ground.phase },{ on:=4,ground:=Ground.phase },{ on:=5,ground:=Ground.phase },{ on:=6,ground:=Ground.phase },{ on:=7,ground:=Ground.phase }],guard:=none }
@[reducible] def pTx10:Oper:={ dst:=none,op:=Op.store 68 (Operand.tmp 50) (Operand.tmp 48),type:=0,pos:= "bytes.go:91",after:=#[{ on:=9,ground:=Ground.data },{ on:=7,ground:=Ground.data },{ on:=7,ground:=Ground.chain },{ on:=0,ground:=Ground.phase },{ on:=1,ground:=Ground.phase },{ on:=2,ground:=Ground.phase },{ on:=3,ground:=Ground.phase },{ on:=4,ground:=Ground.phase },{ on:=5,ground:=Ground.phase },{ on:=6,ground:=Ground.phase },{ on:=7,ground:=Ground.phase }],guard:=none }
@[reducible] def pTs:Array Oper:=#[pTx0,pTx1,pTx2,pTx3,pTx4,pTx5,pTx6,pTx7,pTx8,pTx9,pTx10]
theorem regionT {Q:Exit→Act→World→Prop} (a:Act) {W:World} {L:Nat→Prop} {q b:Nat} {oa:Option Addr} {cap:Nat} {vp ve:Value} {ps:List (Value × Pt)} {I:Im} (h:ImC W L q b (.slice oa I.tops.length cap) vp ve ps I) (t:Tp) (xt:Nat) (hxt:W.heap[xt]?=some (.cells #[.string t.name,.int .i64 t.first,.int .i64 t.count] 96)) (hxo:¬ Own q b (.slice oa I.tops.length cap) vp ve xt) (hok:ImOk { I with tops:=I.tops++[t] })
  (h0:a.eval (.tmp 0)=.pointer (some ⟨q,0,none⟩)) (h7:a.eval (.tmp 5)=.pointer (some ⟨xt,0,none⟩)) (hsz:a.tmps.size=52)
  (hQ:∀ (g c:Nat) (W3:World),ImC W3 L q b (.slice (some ⟨g,0,none⟩) (I.tops.length+1) c) vp ve ps { I with tops:=I.tops++[t] }→((Value.slice oa I.tops.length cap).ownBlock=some g∨W.heap.size≤g)→Keeps (Own q b (.slice oa I.tops.length cap) vp ve) W W3→Q .normal (((((((((((a.put (some 41) (.pointer (some ⟨q,0,none⟩))).put (some 42) (.pointer (some ⟨q,0,none⟩))).put (some 43) (.pointer (some ⟨q,0,none⟩))).put (some 44) (.pointer (some ⟨q,2,none⟩))).put (some 45) (.slice oa I.tops.length cap)).put (some 46) (.agg #[.string t.name,.int .i64 t.first,.int .i64 t.count])).put (some 47) (.slice (some ⟨W.heap.size,0,none⟩) 1 1)).put (some 48) (.slice (some ⟨g,0,none⟩) (I.tops.length+1) c)).put (some 49) (.pointer (some ⟨q,0,none⟩))).put (some 50) (.pointer (some ⟨q,2,none⟩))).put none undef) W3) :
  (Code.region 6 pTs true).wp Tryz.prog Q a W:=by
 obtain ⟨j0,hj0,hz0,hz1,hz2⟩:=info96
 have hfew:=h.ok.topsFew
 have hqlt:q<W.heap.size:=h.lt (.inl rfl)
 have hxlt:xt<W.heap.size:=(Array.getElem?_eq_some_iff.1 hxt).1
 have hbA:Below W.heap.size W ((W.alloc (.cells #[.string t.name,.int .i64 t.first,.int .i64 t.count] 96)).drew):=((Below.refl _ _).alloc (Nat.le_refl _) _).drew
 have HROW:((W.alloc (.cells #[.string t.name,.int .i64 t.first,.int .i64 t.count] 96)).drew).ownsRow 0 96 3 (.slice oa I.tops.length cap) I.tops.length (flatT I.tops):=(h.under hbA).tops
 have HNEW:∀ j u,([.string t.name,.int .i64 t.first,.int .i64 t.count]:List Value)[j]?=some u→((W.alloc (.cells #[.string t.name,.int .i64 t.first,.int .i64 t.count] 96)).drew).cell? ((⟨W.heap.size,0,none⟩:Addr).add j)=some u:=fun j u hu=>by
  rw [add_at,Nat.zero_add]
  refine cell_blk (w:=(W.alloc (.cells #[.string t.name,.int .i64 t.first,.int .i64 t.count] 96)).drew) (heap_alloc_new W (.cells #[.string t.name,.int .i64 t.first,.int .i64 t.count] 96)) j u ?_
  rw [← hu]
  simp
 have HONE:∀ u∈([.string t.name,.int .i64 t.first,.int .i64 t.count]:List Value),u.oneCell'=true:=fun u hu=>by
  simp at hu
  rcases hu with rfl | rfl | rfl <;> rfl
 have HSZ:((W.alloc (.cells #[.string t.name,.int .i64 t.first,.int .i64 t.count] 96)).drew).heap.size=W.heap.size+1:=by simp
 have HG:∀ (w5:World) (g c:Nat),w5.ownsRow 0 96 3 (.slice (some ⟨g,0,none⟩) (I.tops.length+1) c) (I.tops.length+1) (flatT I.tops++[.string t.name,.int .i64 t.first,.int .i64 t.count])→((W.alloc (.cells #[.string t.name,.int .i64 t.first,.int .i64 t.count] 96)).drew).grownBy w5 (Value.slice oa I.tops.length cap).ownBlock→((Value.slice oa I.tops.length cap).ownBlock=some g∨g=W.heap.size+1) →
   w5.heap[q]?=some (.cells #[.int .i64 I.applied,.map (some b),.slice oa I.tops.length cap,vp,ve] 70)∧w5.heap[xt]?=some (.cells #[.string t.name,.int .i64 t.first,.int .i64 t.count] 96)∧ImC (w5.setCell ⟨q,2,none⟩ (.slice (some ⟨g,0,none⟩) (I.tops.length+1) c)) L q b (.slice (some ⟨g,0,none⟩) (I.tops.length+1) c) vp ve ps { I with tops:=I.tops++[t] }∧Keeps (Own q b (.slice oa I.tops.length cap) vp ve) W (w5.setCell ⟨q,2,none⟩ (.slice (some ⟨g,0,none⟩) (I.tops.length+1) c)):=fun w5 g c hown hg hat=>by
  have hs5:=hg.size
  have hblk:∀ k,k<W.heap.size→(Value.slice oa I.tops.length cap).ownBlock≠some k→w5.heap[k]?=W.heap[k]?:=fun k hk hne=>by
   rw [hg.block k (by rw [HSZ];omega) (fun e=>hne e.symm),hbA.block k hk]
  have hqc:=(hblk q hqlt h.ne_q.1).trans h.cells
  have hnew:∀ k,(Value.slice (some ⟨g,0,none⟩) (I.tops.length+1) c).ownBlock=some k→(Value.slice oa I.tops.length cap).ownBlock=some k∨W.heap.size≤k:=fun k hk=>by
   cases hk
   rcases hat with e | e
   ·exact .inl e
   ·exact .inr (by show W.heap.size≤g;omega)
  have hoth:∀ k,k<W.heap.size→k≠q→(Value.slice oa I.tops.length cap).ownBlock≠some k→(w5.setCell ⟨q,2,none⟩ (.slice (some ⟨g,0,none⟩) (I.tops.length+1) c)).heap[k]?=W.heap[k]?:=fun k hk hkq hke=>by
   rw [Below.heap_setCell _ _ _ _ hkq];exact hblk k hk hke
  refine ⟨hqc,(hblk xt hxlt (fun e=>hxo (.inr (.inr (.inl e))))).trans hxt,h.swapT (by simp;omega) hoth (set_box hqc) ?_ hnew hok,⟨hg.os,hg.tape,hg.output,by simp;omega,fun k hk hS=>hoth k hk (fun e=>hS (.inl e)) (fun e=>hS (.inr (.inr (.inl e))))⟩⟩
  have hqv:(Value.slice (some ⟨g,0,none⟩) (I.tops.length+1) c).ownBlock≠some q:=fun e=>by
   rcases hnew q e with e | e
   ·exact h.ne_q.1 e
   ·omega
  have h3:=row_kept hown (w1:=w5.setCell ⟨q,2,none⟩ (.slice (some ⟨g,0,none⟩) (I.tops.length+1) c)) (fun k hk=>Below.heap_setCell _ _ _ _ (fun e=>hqv (by rw [hk,e])))
  rw [List.length_append,flatT_append]
  exact h3
 have HS0:W.drew.heap[q]?=some (.cells #[.int .i64 I.applied,.map (some b),.slice oa I.tops.length cap,vp,ve] 70)∧W.drew.heap[xt]?=some (.cells #[.string t.name,.int .i64 t.first,.int .i64 t.count] 96):=⟨h.cells,hxt⟩
 have HDD:W.drew.alloc (.cells #[.string t.name,.int .i64 t.first,.int .i64 t.count] 96)=(W.alloc (.cells #[.string t.name,.int .i64 t.first,.int .i64 t.count] 96)).drew:=rfl
 have HS1:(W.drew.alloc (.cells #[.string t.name,.int .i64 t.first,.int .i64 t.count] 96)).heap[q]?=some (.cells #[.int .i64 I.applied,.map (some b),.slice oa I.tops.length cap,vp,ve] 70)∧(W.drew.alloc (.cells #[.string t.name,.int .i64 t.first,.int .i64 t.count] 96)).heap[xt]?=some (.cells #[.string t.name,.int .i64 t.first,.int .i64 t.count] 96):=⟨(hbA.block q hqlt).trans h.cells,(hbA.block xt hxlt).trans hxt⟩
 clear hbA h hxt hxo hok
 generalize hFM:flatT I.tops=FM at *
 refine wp_region_noPanic ?_
 refine region_last (fun V=>V.heap[q]?=some (.cells #[.int .i64 I.applied,.map (some b),.slice oa I.tops.length cap,vp,ve] 70)∧V.heap[xt]?=some (.cells #[.string t.name,.int .i64 t.first,.int .i64 t.count] 96)) 10 (by kernel_rfl) ?_
 refine ButLast.take (oi:=pTx0) 0 (.pointer (some ⟨q,0,none⟩)) [9,8] (by rfl) (by kernel_rfl) (by kernel_rfl) (by kernel_rfl) (by kernel_rfl) (by kernel_rfl) (fun c a w h=>h) (yields_move (by rfl) 0 (by rfl) h0) HS0 ?_
 refine ButLast.take (oi:=pTx1) 1 (.pointer (some ⟨q,0,none⟩)) [7,4,3,2] (by rfl) (by kernel_rfl) (by kernel_rfl) (by kernel_rfl) (by kernel_rfl) (by kernel_rfl) (fun c a w h=>h) (yields_move (by rfl) 0 (by rfl) (by simp [put_eval,put_size,hsz,h0,h7])) HS0 ?_
 refine ButLast.take (oi:=pTx2) 2 (.pointer (some ⟨q,0,none⟩)) [7,4,3] (by rfl) (by kernel_rfl) (by kernel_rfl) (by kernel_rfl) (by kernel_rfl) (by kernel_rfl) (fun c a w h=>h) (yields_nil (by rfl) 42 q (by rfl) (by simp [put_eval,put_size,hsz,h0,h7])) HS0 ?_
 refine ButLast.take (oi:=pTx3) 3 (.pointer (some ⟨q,2,none⟩)) [7,4] (by rfl) (by kernel_rfl) (by kernel_rfl) (by kernel_rfl) (by kernel_rfl) (by kernel_rfl) (fun c a w h=>h) (yields_field70_2 (by rfl) 43 q (by rfl) (by simp [put_eval,put_size,hsz,h0,h7])) HS0 ?_
 refine ButLast.take (oi:=pTx4) 4 (.slice oa I.tops.length cap) [7] (by rfl) (by kernel_rfl) (by kernel_rfl) (by kernel_rfl) (by kernel_rfl) (by kernel_rfl) (fun c a w h=>h) (yields_load68 (by rfl) 44 q 2 (by rfl) (by simp [put_eval,put_size,hsz,h0,h7]) _ (fun V hV=>cell_blk hV.1 2 _ rfl)) HS0 ?_
 refine ButLast.take (oi:=pTx5) 5 (.agg #[.string t.name,.int .i64 t.first,.int .i64 t.count]) [7,6] (by rfl) (by kernel_rfl) (by kernel_rfl) (by kernel_rfl) (by kernel_rfl) (by kernel_rfl) (fun c a w h=>h) (yields_load96 (by rfl) 5 xt (by rfl) (by simp [put_eval,put_size,hsz,h0,h7]) _ _ _ (fun V hV=>hV.2)) HS0 ?_
 refine ButLast.one (o:=pTx6) 6 (by kernel_rfl) (by rfl) (fun K hK=>?_)
 refine step_one68 (by rfl) 46 (by rfl) t.name t.first t.count (by simp [put_eval,put_size,hsz,h0,h7]) ?_
 refine hK.out _ _ (fun _=>HS1) ?_
 clear hK K
 rw [HDD]
 refine ButLast.one (o:=pTx7) 7 (by kernel_rfl) (by rfl) (fun K hK=>?_)
 refine step_append_lies _ (by rfl) (.tmp 45) (.tmp 47) 68 (by rfl) 0 96 j0 _ 3 32 Tryz.underlying68 hj0 hz0 hz1 hz2 rfl (by decide) (.slice oa I.tops.length cap) I.tops.length FM (by simp [put_eval,put_size,hsz,h0,h7]) HROW ⟨W.heap.size,0,none⟩ 1 1 [.string t.name,.int .i64 t.first,.int .i64 t.count] (by simp [put_eval,put_size,hsz,h0,h7]) rfl HNEW HONE (by decide) (by unfold maxLen;omega) (by omega) (Nat.zero_le _) (W.heap.size+1) HSZ ?_
 intro g c w5 hown5 hg5 hat5 hlt5
 obtain ⟨f1,f2,f0,f3⟩:=HG w5 g c hown5 hg5 hat5
 have HS5:w5.heap[q]?=some (.cells #[.int .i64 I.applied,.map (some b),.slice oa I.tops.length cap,vp,ve] 70)∧w5.heap[xt]?=some (.cells #[.string t.name,.int .i64 t.first,.int .i64 t.count] 96):=⟨f1,f2⟩
 refine hK.out _ _ (fun _=>HS5) ?_
 clear hK K
 refine ButLast.take (oi:=pTx8) 8 (.pointer (some ⟨q,0,none⟩)) [9] (by rfl) (by kernel_rfl) (by kernel_rfl) (by kernel_rfl) (by kernel_rfl) (by kernel_rfl) (fun c a w h=>h) (yields_nil (by rfl) 41 q (by rfl) (by simp [put_eval,put_size,hsz,h0,h7])) HS5 ?_
 refine ButLast.take (oi:=pTx9) 9 (.pointer (some ⟨q,2,none⟩)) [] (by rfl) (by kernel_rfl) (by kernel_rfl) (by kernel_rfl) (by kernel_rfl) (by kernel_rfl) (fun c a w h=>h) (yields_field70_2 (by rfl) 49 q (by rfl) (by simp [put_eval,put_size,hsz,h0,h7])) HS5 ?_
 have u0:=cell_blk f1 2 _ rfl
 have u1:=frz_blk f1 2
 refine ButLast.store68 (o:=pTx10) 10 (by kernel_rfl) (by rfl) (by rfl) 50 48 (by rfl) q 2 g (I.tops.length+1) c (by simp [put_eval,put_size,hsz,h0,h7]) (by simp [put_eval,put_size,hsz,h0,h7]) (.slice oa I.tops.length cap) u0 u1 (fun h=>absurd rfl h) (ButLast.done (by kernel_rfl) ?_)
 exact NoPanic.normal (hQ g c _ f0 (hat5.elim .inl (fun e=>.inr (by omega))) f3)
@[reducible] def pPx0:Oper:={ dst:=some 26,op:=Op.move (Operand.tmp 0),type:=25,pos:= "bytes.go:115",after:=#[],guard:=none }
@[reducible] def pPx1:Oper:={ dst:=some 27,op:=Op.move (Operand.tmp 0),type:=25,pos:= "bytes.go:115",after:=#[],guard:=none }
@[reducible] def pPx2:Oper:={ dst:=some 28,op:=Op.nilCheck (Operand.tmp 27),type:=0,pos:= "bytes.go:115",after:=#[{ on:=1,ground:=Ground.data }],guard:=none }
@[reducible] def pPx3:Oper:={ dst:=some 29,op:=Op.fieldAddr 70 (Operand.tmp 28) 3,type:=0,pos:= "bytes.go:115",after:=#[{ on:=2,ground:=Ground.data }],guard:=none }
@[reducible] def pPx4:Oper:={ dst:=some 30,op:=Op.load 30 (Operand.tmp 29),type:=30,pos:= "bytes.go:115",after:=#[{ on:=3,ground:=Ground.data }],guard:=none }
@[reducible] def pPx5:Oper:={ dst:=some 31,op:=Op.load 54 (Operand.tmp 7),type:=54,pos:= "bytes.go:115",after:=#[],guard:=none }
@[reducible] def pPx6:Oper:={ dst:=some 32,op:=Op.buildSlice 30 1 #[(0,Operand.tmp 31)],type:=30,pos:= "bytes.go:115",after:=#[{ on:=5,ground:=Ground.data }],guard:=none }
@[reducible] def pPx7:Oper:={ dst:=some 33,op:=Op.call ({ callee:=Callee.builtin Builtin.append,args:=#[Operand.tmp 30,Operand.tmp 32],argTypes:=#[30,30] }),type:=30,pos:= "bytes.go:115",after:=#[{ on:=4,ground:=Ground.data },{ on:=6,ground:=Ground.data }],guard:=none }
@[reducible] def pPx8:Oper:={ dst:=some 34,op:=Op.nilCheck (Operand.tmp 26),type:=0,pos:= "bytes.go:115",after:=#[{ on:=0,ground:=Ground.data },{ on:=0,ground:=Ground.phase },{ on:=1,ground:=Ground.phase },{ on:=2,ground:=Ground.phase },{ on:=3,ground:=Ground.phase },{ on:=4,ground:=Ground.phase },{ on:=5,ground:=Ground.phase },{ on:=6,ground:=Ground.phase },{ on:=7,ground:=Ground.phase }],guard:=none }
@[reducible] def pPx9:Oper:={ dst:=some 35,op:=Op.fieldAddr 70 (Operand.tmp 34) 3,type:=0,pos:= "bytes.go:115",after:=#[{ on:=8,ground:=Ground.data },{ on:=0,ground:=Ground.phase },{ on:=1,ground:=Ground.phase },{ on:=2,ground:=Ground.phase },{ on:=3,ground:=Ground.phase },{ on:=4,ground:=Ground.phase },{ on:=5,ground:=Ground.phase },{ on:=6,ground:=Ground.phase },{ on:=7,ground:=Ground.phase }],guard:=none }
@[reducible] def pPx10:Oper:={ dst:=none,op:=Op.store 30 (Operand.tmp 35) (Operand.tmp 33),type:=0,pos:= "bytes.go:115",after:=#[{ on:=9,ground:=Ground.data },{ on:=7,ground:=Ground.data },{ on:=7,ground:=Ground.chain },{ on:=0,ground:=Ground.phase },{ on:=1,ground:=Ground.phase },{ on:=2,ground:=Ground.phase },{ on:=3,ground:=Ground.phase },{ on:=4,ground:=Ground.phase },{ on:=5,ground:=Ground.phase },{ on:=6,ground:=Ground.phase },{ on:=7,ground:=Ground.phase }],guard:=none }
@[reducible] def pPs:Array Oper:=#[pPx0,pPx1,pPx2,pPx3,pPx4,pPx5,pPx6,pPx7,pPx8,pPx9,pPx10]
theorem ImC.pushP {w w3:World} {L:Nat→Prop} {q b:Nat} {vt vp ve v2:Value} {ps:List (Value × Pt)} {I:Im} (h:ImC w L q b vt vp ve ps I) {X:Nat→Prop} {v:Value} {p:Pt} (hs:w.heap.size≤w3.heap.size) (hoth:∀ k,k<w.heap.size→k≠q→vp.ownBlock≠some k→w3.heap[k]?=w.heap[k]?)
  (hq:w3.heap[q]?=some (.cells #[.int .i64 I.applied,.map (some b),vt,v2,ve] 70)) (hrow:w3.ownsRow 0 54 9 v2 (ps.length+1) (flatP (ps++[(v,p)]))) (hnew:∀ k,v2.ownBlock=some k→vp.ownBlock=some k∨w.heap.size≤k)
  (hpm:PartM w3 v p) (hX:InP X v p) (hXl:∀ k,X k→k<w3.heap.size∧¬ (Own q b vt vp ve k∨L k)∧v2.ownBlock≠some k) (hok:ImOk { I with parts:=I.parts++[p] }):ImC w3 (fun k=>L k∨X k) q b vt v2 ve (ps++[(v,p)]) { I with parts:=I.parts++[p] }:=by
 refine ⟨hq,?_,row_kept h.tops (fun k hk=>hoth k (row_lt h.tops hk) (fun e=>h.ne_q.1 (by rw [← e];exact hk)) (h.ne_rows.1 hk)),by rw [List.length_append];exact hrow,row_kept h.eps (fun k hk=>hoth k (row_lt h.eps hk) (fun e=>h.ne_q.2.2 (by rw [← e];exact hk)) (fun e=>h.ne_rows.2.2 e hk)),fun x hx=>?_,?_,fun k hk=>?_,hok⟩
 ·obtain ⟨es,clock,hm,r⟩:=h.bmap
  exact ⟨es,clock,(hoth b h.bmap.lt (fun e=>h.ne_qb e.symm) h.ne_b.2.1).trans hm,r⟩
 ·rcases List.mem_append.1 hx with hx | hx
  ·obtain ⟨h1,h2⟩:=h.each x hx
   exact ⟨h1.kept h2 (fun k hk=>hoth k (h.lists k hk).1 (fun e=>(h.lists k hk).2 (.inl e)) (fun e=>(h.lists k hk).2 (.inr (.inr (.inr (.inl e)))))) hs,h2.mono fun k hk=>.inl hk⟩
  ·simp at hx
   subst hx
   exact ⟨hpm,hX.mono fun k hk=>.inr hk⟩
 ·simp [h.abs]
 ·rcases hk with hk | hk
  ·refine ⟨Nat.lt_of_lt_of_le (h.lists k hk).1 hs,?_⟩
   rintro (e | e | e | e | e)
   ·exact (h.lists k hk).2 (.inl e)
   ·exact (h.lists k hk).2 (.inr (.inl e))
   ·exact (h.lists k hk).2 (.inr (.inr (.inl e)))
   ·rcases hnew k e with e | e
    ·exact (h.lists k hk).2 (.inr (.inr (.inr (.inl e))))
    ·have:=(h.lists k hk).1;omega
   ·exact (h.lists k hk).2 (.inr (.inr (.inr (.inr e))))
  ·obtain ⟨x1,x2,x3⟩:=hXl k hk
   refine ⟨x1,?_⟩
   rintro (e | e | e | e | e)
   ·exact x2 (.inl (.inl e))
   ·exact x2 (.inl (.inr (.inl e)))
   ·exact x2 (.inl (.inr (.inr (.inl e))))
   ·exact x3 e
   ·exact x2 (.inl (.inr (.inr (.inr (.inr e)))))
theorem yields_load54 {ops:Array Oper} {o:Oper} {a:Act} {S:World→Prop} (hg:o.guard=none) (x r:Nat) (ho:o.op=.load 54 (.tmp x)) (hx:a.eval (.tmp x)=.pointer (some ⟨r,0,none⟩)) (c0 c1 c2 c3 c4 c5 c6 c7 c8:Value) (hS:∀ w,S w→w.heap[r]?=some (.cells #[c0,c1,c2,c3,c4,c5,c6,c7,c8] 54)):YieldsIf Tryz.prog ops S o (.agg #[c0,c1,c2,c3,c4,c5,c6,c7,c8]) a:=by
 refine .inl ⟨by simp [Region.wanted,hg],fun w hw=>?_⟩
 unfold execOp
 rw [ho]
 have hx':a.tmps[x]?.getD undef=.pointer (some ⟨r,0,none⟩):=by simpa [Act.eval] using hx
 have hc:=hS w hw
 obtain ⟨g0,g1,g2,g3,g4,g5,g6,g7,g8⟩:=cells9 hc
 go_simp
theorem regionP {Q:Exit→Act→World→Prop} (a:Act) {W:World} {L:Nat→Prop} {q b:Nat} {oa:Option Addr} {cap:Nat} {vt ve:Value} {ps:List (Value × Pt)} {I:Im} (h:ImC W L q b vt (.slice oa ps.length cap) ve ps I) (B0:Nat) (hB0:∀ k,Own q b vt (.slice oa ps.length cap) ve k∨L k→k<B0) (p:Pt) (x1 x2 x3 x4:Option Addr) (y1 y2 y3 y4:Nat) (hp0:PartM W (.agg (PP p x1 y1 x2 y2 x3 y3 x4 y4)) p) (hp2:InP (fun k=>B0≤k) (.agg (PP p x1 y1 x2 y2 x3 y3 x4 y4)) p) (xt:Nat) (hxt:W.heap[xt]?=some (.cells (PP p x1 y1 x2 y2 x3 y3 x4 y4) 54)) (hxo:¬ Own q b vt (.slice oa ps.length cap) ve xt) (hok:ImOk { I with parts:=I.parts++[p] })
  (h0:a.eval (.tmp 0)=.pointer (some ⟨q,0,none⟩)) (h7:a.eval (.tmp 7)=.pointer (some ⟨xt,0,none⟩)) (hsz:a.tmps.size=37)
  (hQ:∀ (g c:Nat) (W3:World),ImC W3 (fun j=>L j∨(B0≤j∧j<W.heap.size)) q b vt (.slice (some ⟨g,0,none⟩) (ps.length+1) c) ve (ps++[(.agg (PP p x1 y1 x2 y2 x3 y3 x4 y4),p)]) { I with parts:=I.parts++[p] }→((Value.slice oa ps.length cap).ownBlock=some g∨W.heap.size≤g)→Keeps (Own q b vt (.slice oa ps.length cap) ve) W W3→Q .normal (((((((((((a.put (some 26) (.pointer (some ⟨q,0,none⟩))).put (some 27) (.pointer (some ⟨q,0,none⟩))).put (some 28) (.pointer (some ⟨q,0,none⟩))).put (some 29) (.pointer (some ⟨q,3,none⟩))).put (some 30) (.slice oa ps.length cap)).put (some 31) (.agg (PP p x1 y1 x2 y2 x3 y3 x4 y4))).put (some 32) (.slice (some ⟨W.heap.size,0,none⟩) 1 1)).put (some 33) (.slice (some ⟨g,0,none⟩) (ps.length+1) c)).put (some 34) (.pointer (some ⟨q,0,none⟩))).put (some 35) (.pointer (some ⟨q,3,none⟩))).put none undef) W3) :
  (Code.region 10 pPs true).wp Tryz.prog Q a W:=by
 obtain ⟨j0,hj0,hz0,hz1,hz2⟩:=info54
 have hfew:ps.length≤16:=by have:=h.plen;have:=h.ok.few;omega
 have hqlt:q<W.heap.size:=h.lt (.inl rfl)
 have hxlt:xt<W.heap.size:=(Array.getElem?_eq_some_iff.1 hxt).1
 have hbA:Below W.heap.size W ((W.alloc (.cells (PP p x1 y1 x2 y2 x3 y3 x4 y4) 54)).drew):=((Below.refl _ _).alloc (Nat.le_refl _) _).drew
 have HROW:((W.alloc (.cells (PP p x1 y1 x2 y2 x3 y3 x4 y4) 54)).drew).ownsRow 0 54 9 (.slice oa ps.length cap) ps.length (flatP ps):=(h.under hbA).parts
 have HNEW:∀ j u,([.int .i64 p.id,.int .i64 p.leader,.int .i64 p.epoch,.int .i64 p.ver,.slice x1 p.isr.length y1,.slice x2 p.reps.length y2,.slice x3 p.add.length y3,.slice x4 p.rem.length y4,.int .i64 p.min]:List Value)[j]?=some u→((W.alloc (.cells (PP p x1 y1 x2 y2 x3 y3 x4 y4) 54)).drew).cell? ((⟨W.heap.size,0,none⟩:Addr).add j)=some u:=fun j u hu=>by
  rw [add_at,Nat.zero_add]
  refine cell_blk (w:=((W.alloc (.cells (PP p x1 y1 x2 y2 x3 y3 x4 y4) 54)).drew)) (heap_alloc_new W (.cells (PP p x1 y1 x2 y2 x3 y3 x4 y4) 54)) j u ?_
  rw [← hu]
  simp
 have HSZ:((W.alloc (.cells (PP p x1 y1 x2 y2 x3 y3 x4 y4) 54)).drew).heap.size=W.heap.size+1:=by simp
 have HG:∀ (w5:World) (g c:Nat),w5.ownsRow 0 54 9 (.slice (some ⟨g,0,none⟩) (ps.length+1) c) (ps.length+1) (flatP ps++[.int .i64 p.id,.int .i64 p.leader,.int .i64 p.epoch,.int .i64 p.ver,.slice x1 p.isr.length y1,.slice x2 p.reps.length y2,.slice x3 p.add.length y3,.slice x4 p.rem.length y4,.int .i64 p.min])→((W.alloc (.cells (PP p x1 y1 x2 y2 x3 y3 x4 y4) 54)).drew).grownBy w5 (Value.slice oa ps.length cap).ownBlock→((Value.slice oa ps.length cap).ownBlock=some g∨g=W.heap.size+1) →
   w5.heap[q]?=some (.cells #[.int .i64 I.applied,.map (some b),vt,.slice oa ps.length cap,ve] 70)∧w5.heap[xt]?=some (.cells (PP p x1 y1 x2 y2 x3 y3 x4 y4) 54)∧ImC (w5.setCell ⟨q,3,none⟩ (.slice (some ⟨g,0,none⟩) (ps.length+1) c)) (fun j=>L j∨(B0≤j∧j<W.heap.size)) q b vt (.slice (some ⟨g,0,none⟩) (ps.length+1) c) ve (ps++[(.agg (PP p x1 y1 x2 y2 x3 y3 x4 y4),p)]) { I with parts:=I.parts++[p] }∧Keeps (Own q b vt (.slice oa ps.length cap) ve) W (w5.setCell ⟨q,3,none⟩ (.slice (some ⟨g,0,none⟩) (ps.length+1) c)):=fun w5 g c hown hg hat=>by
  have hs5:=hg.size
  have hblk:∀ j,j<W.heap.size→(Value.slice oa ps.length cap).ownBlock≠some j→w5.heap[j]?=W.heap[j]?:=fun j hj hne=>by
   rw [hg.block j (by rw [HSZ];omega) (fun e=>hne e.symm),hbA.block j hj]
  have hqc:=(hblk q hqlt h.ne_q.2.1).trans h.cells
  have hvl:∀ j,(Value.slice oa ps.length cap).ownBlock=some j→j<B0:=fun j hj=>hB0 j (.inl (.inr (.inr (.inr (.inl hj)))))
  have hnew:∀ j,(Value.slice (some ⟨g,0,none⟩) (ps.length+1) c).ownBlock=some j→(Value.slice oa ps.length cap).ownBlock=some j∨W.heap.size+1≤j:=fun j hj=>by
   cases hj
   rcases hat with e | e
   ·exact .inl e
   ·exact .inr (by show W.heap.size+1≤g;omega)
  have hqB:q<B0:=hB0 q (.inl (.inl rfl))
  have hoth:∀ j,j<W.heap.size→j≠q→(Value.slice oa ps.length cap).ownBlock≠some j→(w5.setCell ⟨q,3,none⟩ (.slice (some ⟨g,0,none⟩) (ps.length+1) c)).heap[j]?=W.heap[j]?:=fun j hj hjq hje=>by
   rw [Below.heap_setCell _ _ _ _ hjq,hblk j hj hje]
  refine ⟨hqc,(hblk xt hxlt (fun e=>hxo (.inr (.inr (.inr (.inl e)))))).trans hxt,?_,⟨hg.os,hg.tape,hg.output,by simp;omega,fun j hj hS=>hoth j hj (fun e=>hS (.inl e)) (fun e=>hS (.inr (.inr (.inr (.inl e)))))⟩⟩
  have hqv:(Value.slice (some ⟨g,0,none⟩) (ps.length+1) c).ownBlock≠some q:=fun e=>by
   rcases hnew q e with e | e
   ·exact h.ne_q.2.1 e
   ·omega
  have h5:=row_kept hown (w1:=w5.setCell ⟨q,3,none⟩ (.slice (some ⟨g,0,none⟩) (ps.length+1) c)) (fun j hj=>Below.heap_setCell _ _ _ _ (fun e=>hqv (by rw [hj,e])))
  have hpm:PartM (w5.setCell ⟨q,3,none⟩ (.slice (some ⟨g,0,none⟩) (ps.length+1) c)) (.agg (PP p x1 y1 x2 y2 x3 y3 x4 y4)) p:=hp0.kept (hp2.and hp0.old) (fun j hj=>hoth j hj.2 (by omega) (fun e=>by have:=hvl j e;omega)) (by simp;omega)
  exact h.pushP (by simp;omega) hoth (set_box hqc) (by rw [flatP_append];exact h5) (fun j hj=>(hnew j hj).imp (fun e=>e) (fun e=>by omega)) hpm (hp2.and hp0.old) (fun j hj=>⟨by simp;omega,fun e=>by have:=hB0 j e;omega,fun e=>by
   rcases hnew j e with e | e
   ·have:=hvl j e;omega
   ·omega⟩) hok
 have HS0:W.drew.heap[q]?=some (.cells #[.int .i64 I.applied,.map (some b),vt,.slice oa ps.length cap,ve] 70)∧W.drew.heap[xt]?=some (.cells (PP p x1 y1 x2 y2 x3 y3 x4 y4) 54):=⟨h.cells,hxt⟩
 have HDD:W.drew.alloc (.cells (PP p x1 y1 x2 y2 x3 y3 x4 y4) 54)=((W.alloc (.cells (PP p x1 y1 x2 y2 x3 y3 x4 y4) 54)).drew):=rfl
 have HS1:(W.drew.alloc (.cells (PP p x1 y1 x2 y2 x3 y3 x4 y4) 54)).heap[q]?=some (.cells #[.int .i64 I.applied,.map (some b),vt,.slice oa ps.length cap,ve] 70)∧(W.drew.alloc (.cells (PP p x1 y1 x2 y2 x3 y3 x4 y4) 54)).heap[xt]?=some (.cells (PP p x1 y1 x2 y2 x3 y3 x4 y4) 54):=⟨(hbA.block q hqlt).trans h.cells,(hbA.block xt hxlt).trans hxt⟩
 clear hbA h hxt hxo hok hp0 hp2 hB0
 generalize hFM:flatP ps=FM at *
 refine wp_region_noPanic ?_
 refine region_last (fun V=>V.heap[q]?=some (.cells #[.int .i64 I.applied,.map (some b),vt,.slice oa ps.length cap,ve] 70)∧V.heap[xt]?=some (.cells (PP p x1 y1 x2 y2 x3 y3 x4 y4) 54)) 10 (by kernel_rfl) ?_
 refine ButLast.take (oi:=pPx0) 0 (.pointer (some ⟨q,0,none⟩)) [9,8] (by rfl) (by kernel_rfl) (by kernel_rfl) (by kernel_rfl) (by kernel_rfl) (by kernel_rfl) (fun c a w h=>h) (yields_move (by rfl) 0 (by rfl) h0) HS0 ?_
 refine ButLast.take (oi:=pPx1) 1 (.pointer (some ⟨q,0,none⟩)) [7,4,3,2] (by rfl) (by kernel_rfl) (by kernel_rfl) (by kernel_rfl) (by kernel_rfl) (by kernel_rfl) (fun c a w h=>h) (yields_move (by rfl) 0 (by rfl) (by simp [put_eval,put_size,hsz,h0,h7])) HS0 ?_
 refine ButLast.take (oi:=pPx2) 2 (.pointer (some ⟨q,0,none⟩)) [7,4,3] (by rfl) (by kernel_rfl) (by kernel_rfl) (by kernel_rfl) (by kernel_rfl) (by kernel_rfl) (fun c a w h=>h) (yields_nil (by rfl) 27 q (by rfl) (by simp [put_eval,put_size,hsz,h0,h7])) HS0 ?_
 refine ButLast.take (oi:=pPx3) 3 (.pointer (some ⟨q,3,none⟩)) [7,4] (by rfl) (by kernel_rfl) (by kernel_rfl) (by kernel_rfl) (by kernel_rfl) (by kernel_rfl) (fun c a w h=>h) (yields_field70_3 (by rfl) 28 q (by rfl) (by simp [put_eval,put_size,hsz,h0,h7])) HS0 ?_
 refine ButLast.take (oi:=pPx4) 4 (.slice oa ps.length cap) [7] (by rfl) (by kernel_rfl) (by kernel_rfl) (by kernel_rfl) (by kernel_rfl) (by kernel_rfl) (fun c a w h=>h) (yields_load30 (by rfl) 29 q 3 (by rfl) (by simp [put_eval,put_size,hsz,h0,h7]) _ (fun V hV=>cell_blk hV.1 3 _ rfl)) HS0 ?_
 refine ButLast.take (oi:=pPx5) 5 (.agg (PP p x1 y1 x2 y2 x3 y3 x4 y4)) [7,6] (by rfl) (by kernel_rfl) (by kernel_rfl) (by kernel_rfl) (by kernel_rfl) (by kernel_rfl) (fun c a w h=>h) (yields_load54 (by rfl) 7 xt (by rfl) (by simp [put_eval,put_size,hsz,h0,h7]) _ _ _ _ _ _ _ _ _ (fun V hV=>hV.2)) HS0 ?_
 refine ButLast.one (o:=pPx6) 6 (by kernel_rfl) (by rfl) (fun K hK=>?_)
 refine step_one30 (by rfl) 31 (by rfl) p.id p.leader p.epoch p.ver p.min x1 x2 x3 x4 p.isr.length p.reps.length p.add.length p.rem.length y1 y2 y3 y4 (by simp [put_eval,put_size,hsz,h0,h7]) ?_
 refine hK.out _ _ (fun _=>HS1) ?_
 clear hK K
 rw [HDD]
 refine ButLast.one (o:=pPx7) 7 (by kernel_rfl) (by rfl) (fun K hK=>?_)
 refine step_append_lies _ (by rfl) (.tmp 30) (.tmp 32) 30 (by rfl) 0 54 j0 _ 9 136 Tryz.underlying30 hj0 hz0 hz1 hz2 rfl (by decide) (.slice oa ps.length cap) ps.length FM (by simp [put_eval,put_size,hsz,h0,h7]) HROW ⟨W.heap.size,0,none⟩ 1 1 [.int .i64 p.id,.int .i64 p.leader,.int .i64 p.epoch,.int .i64 p.ver,.slice x1 p.isr.length y1,.slice x2 p.reps.length y2,.slice x3 p.add.length y3,.slice x4 p.rem.length y4,.int .i64 p.min] (by simp [put_eval,put_size,hsz,h0,h7]) rfl HNEW (nine_one _ _ _ _ _ _ _ _ _) (by decide) (by unfold maxLen;omega) (by omega) (Nat.zero_le _) (W.heap.size+1) HSZ ?_
 intro g c w5 hown5 hg5 hat5 hlt5
 obtain ⟨f1,f2,f0,f3⟩:=HG w5 g c hown5 hg5 hat5
 have HS5:w5.heap[q]?=some (.cells #[.int .i64 I.applied,.map (some b),vt,.slice oa ps.length cap,ve] 70)∧w5.heap[xt]?=some (.cells (PP p x1 y1 x2 y2 x3 y3 x4 y4) 54):=⟨f1,f2⟩
 refine hK.out _ _ (fun _=>HS5) ?_
 clear hK K
 refine ButLast.take (oi:=pPx8) 8 (.pointer (some ⟨q,0,none⟩)) [9] (by rfl) (by kernel_rfl) (by kernel_rfl) (by kernel_rfl) (by kernel_rfl) (by kernel_rfl) (fun c a w h=>h) (yields_nil (by rfl) 26 q (by rfl) (by simp [put_eval,put_size,hsz,h0,h7])) HS5 ?_
 refine ButLast.take (oi:=pPx9) 9 (.pointer (some ⟨q,3,none⟩)) [] (by rfl) (by kernel_rfl) (by kernel_rfl) (by kernel_rfl) (by kernel_rfl) (by kernel_rfl) (fun c a w h=>h) (yields_field70_3 (by rfl) 34 q (by rfl) (by simp [put_eval,put_size,hsz,h0,h7])) HS5 ?_
 have u0:=cell_blk f1 3 _ rfl
 have u1:=frz_blk f1 3
 refine ButLast.store30 (o:=pPx10) 10 (by kernel_rfl) (by rfl) (by rfl) 35 33 (by rfl) q 3 g (ps.length+1) c (by simp [put_eval,put_size,hsz,h0,h7]) (by simp [put_eval,put_size,hsz,h0,h7]) (.slice oa ps.length cap) u0 u1 (fun h=>absurd rfl h) (ButLast.done (by kernel_rfl) ?_)
 exact NoPanic.normal (hQ g c _ f0 (hat5.elim .inl (fun e=>.inr (by omega))) f3)
@[reducible] def wTp (J:Im) (ts:List Tp):Im:={ J with tops:=ts }
theorem sumT_take:∀ (ts:List Tp) (k:Nat),(∀ t∈ts,1≤t.count)→sumT (ts.take k)≤sumT ts
 | [],k,_=>by simp [sumT]
 | t :: r,0,h=>by
  have h1:=sumT_len (t :: r) h
  simp only [List.take_zero,sumT] at *
  omega
 | t :: r,k+1,h=>by
  have:=sumT_take r k (fun x hx=>h x (by simp [hx]))
  simp only [List.take_succ_cons,sumT]
  omega
theorem tp_ok {J:Im} {ts:List Tp} (h:ImOk (wTp J ts)) (k:Nat):ImOk (wTp J (ts.take k)) :=
 ⟨h.keys,h.brs,h.parts,h.few,by have:=sumT_take ts k (fun t ht=>(h.nums t ht).2.2.1);have:=h.tops;simp only at *;omega,fun t ht=>h.name t (List.mem_of_mem_take ht),fun t ht=>h.nums t (List.mem_of_mem_take ht),h.eps,h.epv,h.app⟩
def LE (w U:World) (q x:Nat) (I:Im) (l:List UInt8):Prop:=∃ Z,LS w U Z q x I l
structure TpOk (ts:List Tp):Prop where
 name:∀ t∈ts,nameB t.name=true
 apart:∀ (k:Nat) (h:k<ts.length),hasT (ts.take k) ts[k].name=false
 chain:∀ (k:Nat) (h:k<ts.length),ts[k].first=nxT (ts.take k)
theorem readTops_any {w U:World} {q x:Nat} {J:Im} {ts:List Tp} {l:List UInt8} (h:LE w U q x (wTp J []) (W.intL (ts.length:Int)++(tpB ts++l))) (ht:TpOk ts) (hok:ImOk (wTp J ts)) :
  Calls Tryz.prog 45 #[.pointer (some ⟨q,0,none⟩),.pointer (some ⟨x,0,none⟩)] U fun e w'=>e=.returned (.bool true)∧LE w w' q x (wTp J ts) l:=by
 obtain ⟨Z,h⟩:=h
 have hl16:ts.length≤16:=hok.topsFew
 have HC:=hid (h.count (n:=(ts.length:Int)) (most:=16) ⟨by omega,by omega⟩ (by omega))
 have HT:=hid ht
 have HOK:=hid hok
 clear h ht hok
 go_enter Tryz.func45,Tryz.ntmps45
 go_wp2_with fail
 refine HC.out.mono ?_
 rintro e U1 ⟨rfl,ho⟩
 have H0:Hid (LE w U1 q x (wTp J (ts.take 0)) (((ts.drop 0).map tpOne).flatten++l)):=⟨Z,ho.1⟩
 clear ho HC
 go_wp2_with fail
 go_loopg [8] ts.length (fun kx s8 wr=>∃ (k:Nat),k≤ts.length∧ts.length - k≤kx∧s8=.int .i64 (k:Int)∧Hid (LE w wr q x (wTp J (ts.take k)) (((ts.drop k).map tpOne).flatten++l)))
 case atStart=>exact ⟨0,Nat.zero_le _,by omega,rfl,H0.out⟩
 case round =>
  obtain ⟨k,hk,hkx,rfl,HR⟩:=hrel
  clear H0
  by_cases hlt:k<ts.length
  ·have hlt':(k:Int)<(ts.length:Int):=by omega
   have HNM:=hid (HT.out.name ts[k] (List.getElem_mem hlt))
   have HAP:=hid (HT.out.apart k hlt)
   have HCH:=hid (HT.out.chain k hlt)
   have hnu:=HOK.out.nums ts[k] (List.getElem_mem hlt)
   have hsz:=HOK.out.name ts[k] (List.getElem_mem hlt)
   have HNO:=hid (tp_ok HOK.out (k+1))
   have HTK:Hid (ts.take (k+1)=ts.take k++[ts[k]]):=by show _=_;exact List.take_succ_eq_append_getElem hlt
   obtain ⟨Z,hZ⟩:=HR.out
   have HR0:Hid (LS w wr Z q x (wTp J (ts.take k)) (W.textL ts[k].name.data.toList++(W.intL ts[k].first++(W.intL ts[k].count++(((ts.drop (k+1)).map tpOne).flatten++l))))):=by
    have:=hZ
    rw [flat_drop tpOne ts k hlt] at this
    have e:tpOne ts[k]++((ts.drop (k+1)).map tpOne).flatten++l=W.textL ts[k].name.data.toList++(W.intL ts[k].first++(W.intL ts[k].count++(((ts.drop (k+1)).map tpOne).flatten++l))):=by
     unfold tpOne
     simp [W.intsL,List.append_assoc]
    show LS _ _ _ _ _ _ _
    rw [← e]
    exact this
   clear HR hZ
   generalize ts[k]=T at *
   have hfI:I64 T.first:=by unfold I64;omega
   have hcI:I64 T.count:=by unfold I64;omega
   go_wp2_with fail
   refine (HR0.out.text (most:=32) (by omega) (by omega)).mono ?_
   rintro e V1 ⟨rfl,o1⟩
   have HR1:=hid o1.1
   clear o1 HR0
   go_wp2_with fail
   refine (HR1.out.int hfI).mono ?_
   rintro e V2 ⟨rfl,o2⟩
   have HR2:=hid o2.1
   clear o2 HR1
   go_wp2_with fail
   refine (HR2.out.int hcI).mono ?_
   rintro e V3 ⟨rfl,o3⟩
   have HR3:=hid o3.1
   clear o3 HR2
   go_upto_region 4 with fail
   have HR4:Hid (LS w (V3.alloc (.cells #[.string T.name,.int .i64 T.first,.int .i64 T.count] 96)) Z q x (wTp J (ts.take k)) (((ts.drop (k+1)).map tpOne).flatten++l)):=HR3.out.under ((Below.refl _ _).alloc (Nat.le_refl _) _)
   have HBX:=hid (heap_alloc_new V3 (.cells #[.string T.name,.int .i64 T.first,.int .i64 T.count] 96))
   have HZL:=hid HR3.out.1.1.lt
   generalize hV:V3.alloc (.cells #[.string T.name,.int .i64 T.first,.int .i64 T.count] 96)=V at *
   generalize V3.heap.size=y at *
   clear hV HR3
   have b0:=cell_blk HBX.out 0 _ rfl
   have b1:=cell_blk HBX.out 1 _ rfl
   have b2:=cell_blk HBX.out 2 _ rfl
   obtain ⟨⟨⟨L,b,vt,vp,ve,ps,h1,hz1,hz2,hz3⟩,h2⟩,h3,h4,h5⟩:=id HR4.out
   have HIC:=hid h1
   have HC1:Hid (∀ U,Calls Tryz.prog 93 #[.string T.name] U fun e w'=>e=.returned (.bool true)∧U=w'):=fun U=>by
    have:=isName_any T.name U (by unfold maxLen;omega)
    rw [HNM.out] at this
    exact this
   have HC2:Hid (∀ U,Below V.heap.size V U→Calls Tryz.prog 65 #[.pointer (some ⟨q,0,none⟩),.string T.name] U fun e w'=>e=.returned (.int .i64 (-1))∧Below U.heap.size U w'):=fun U hU=>by
    refine (place_any (HIC.out.under hU) T.name).mono ?_
    rintro e w' ⟨⟨i,rfl,_,hi,_⟩,hb⟩
    rw [hi HAP.out]
    exact ⟨rfl,hb⟩
   have HC3:Hid (∀ U,Below V.heap.size V U→Calls Tryz.prog 94 #[.pointer (some ⟨q,0,none⟩)] U fun e w'=>e=.returned (.int .i64 T.first)∧Below U.heap.size U w'):=fun U hU=>by
    rw [HCH.out]
    exact nextPart_any (HIC.out.under hU)
   have HC4:Hid (∀ U,Calls Tryz.prog 67 #[.int .i64 T.count,.int .i64 16] U fun e w'=>e=.returned (.bool true)∧U=w'):=fun U=>by
    have:=upTo_any T.count 16 U hcI (by unfold I64;omega)
    rw [upB_iff.2 ⟨hnu.2.2.1,hnu.2.2.2⟩] at this
    exact this
   clear h1 hz1 hz2 hz3 h2 h3 h4 h5 HNM HAP HCH HIC
   go_cut [40] from 17 to 40 (fun s40 N=>s40=.bool false∧Hid (Below V.heap.size V N))
   case first =>
    have HB0:=hid (Below.refl V.heap.size V)
    go_region_held3 (fun w'=>w'.cell? ⟨y,0,none⟩=some (.string T.name)∧w'.cell? ⟨y,1,none⟩=some (.int .i64 T.first)∧w'.cell? ⟨y,2,none⟩=some (.int .i64 T.count)) (go_keep)
     (first
     | (go_at_call 93;refine (HC1.out _).mono ?_;rintro e w1 ⟨rfl,rfl⟩)
     | (go_at_call 65;refine (HC2.out _ (by first | exact Below.refl _ _ | exact (Below.refl _ _).drew | exact below_drewN (Below.refl _ _) _)).mono ?_;rintro e N1 ⟨rfl,hb⟩;have HB1:Hid (Below V.heap.size V N1):=hid ((by first | exact hb | exact (Below.refl _ _).drew.trans hb));replace b0:=kept_cell hb b0;replace b1:=kept_cell hb b1;replace b2:=kept_cell hb b2;clear hb)
     | (go_at_call 94;refine (HC3.out _ (by first | exact HB1.out | exact HB1.out.drew)).mono ?_;rintro e N2 ⟨rfl,hb⟩;have HB2:Hid (Below V.heap.size V N2):=hid (HB1.out.trans (hb.mono HB1.out.size));replace b0:=kept_cell hb b0;replace b1:=kept_cell hb b1;replace b2:=kept_cell hb b2;clear hb)
     | (go_at_call 67;refine (HC4.out _).mono ?_;rintro e w1 ⟨rfl,rfl⟩)
     | fail)
    all_goals
     go_wp2_with fail
     go_meet
     case rel=>exact ⟨rfl,HB2.out⟩
   case rest =>
    obtain ⟨rfl,HBN⟩:=hcut
    have HR5:=hid (HR4.out.under HBN.out)
    have HBY:=hid ((HBN.out.block y (Array.getElem?_eq_some_iff.1 HBX.out).1).trans HBX.out)
    clear HC1 HC2 HC3 HC4 b0 b1 b2 HR4 HBX HBN
    obtain ⟨⟨⟨L,b,vt,vp,ve,ps,h1,hz1,hz2,hz3⟩,h2⟩,h3,h4,h5⟩:=HR5.out
    obtain ⟨ot,ct,hvt,_⟩:=row_shape h1.tops
    subst hvt
    have hyo:¬ Own q b (.slice ot (wTp J (ts.take k)).tops.length ct) vp ve y:=fun ho=>by have:=HZL.out y (hz1 y ho);omega
    have HI5:=hid h1
    have HZ5:=hid (And.intro hz1 (And.intro hz2 (And.intro hz3 (And.intro h2 (And.intro h3 (And.intro h4 h5))))))
    have HOK5:Hid (ImOk { (wTp J (ts.take k)) with tops:=(wTp J (ts.take k)).tops++[T] }):=by
     show ImOk (wTp J (ts.take k++[T]))
     rw [← HTK.out]
     exact HNO.out
    clear h1 hz1 hz2 hz3 h2 h3 h4 h5 HR5
    go_upto_region 6 with fail
    refine regionT _ HI5.out T y HBY.out hyo HOK5.out rfl rfl rfl ?_
    intro g c N i1 i2 i3
    simp only [Act.put,List.setIfInBounds_toArray,List.set_cons_zero,List.set_cons_succ]
    have HV3:Hid (LE w N q x (wTp J (ts.take (k+1))) (((ts.drop (k+1)).map tpOne).flatten++l)):=by
     obtain ⟨z1,z2,z3,z4,z5,z6,z7⟩:=HZ5.out
     refine ⟨fun j=>Own q b (.slice (some ⟨g,0,none⟩) ((wTp J (ts.take k)).tops.length+1) c) vp ve j∨L j,⟨⟨L,b,_,vp,ve,ps,?_,fun j hj=>.inl hj,fun j hj=>.inr hj,fun j hj=>hj.elim (fun h=>i1.lt h) (fun h=>(i1.lists j h).1)⟩,fun j hj=>?_⟩,z5.kept (i3.block x z5.lt (fun ho=>(z4 x (z1 x ho)).2 rfl)),z6,z7.trans (i3.below z7.size (fun j hj=>(z4 j (z1 j hj)).1))⟩
     ·have e:wTp J (ts.take (k+1))={ (wTp J (ts.take k)) with tops:=(wTp J (ts.take k)).tops++[T] }:=by unfold wTp;rw [HTK.out]
      rw [e]
      exact i1
     ·have hxl:=z5.lt
      have hws:=z7.size
      have key:∀ j,Own q b (.slice ot (wTp J (ts.take k)).tops.length ct) vp ve j→w.heap.size≤j∧j≠x:=fun j h=>z4 j (z1 j h)
      rcases hj with (e | e | e | e | e) | e
      ·exact key j (.inl e)
      ·exact key j (.inr (.inl e))
      ·have eg:g=j:=own_some e
       subst eg
       rcases i2 with e2 | e2
       ·exact key g (.inr (.inr (.inl e2)))
       ·omega
      ·exact key j (.inr (.inr (.inr (.inl e))))
      ·exact key j (.inr (.inr (.inr (.inr e))))
      ·exact z4 j (z2 j e)
    clear i1 i2 i3 HI5 HZ5 HOK5 HBY
    go_wp2_with fail
    go_roundg (ts.length - (k+1))
    case measure=>omega
    case rel=>exact ⟨k+1,by omega,Nat.le_refl _,by go_num,HV3.out⟩
  ·have hlt':¬ (k:Int)<(ts.length:Int):=by omega
   obtain rfl:k=ts.length:=by omega
   have HE:Hid (LE w wr q x (wTp J ts) l):=by
    have:=HR.out
    rw [List.take_length,List.drop_length] at this
    exact this
   clear HR
   go_wp2_with fail
   go_ret
   exact ⟨rfl,HE.out⟩
end Go.Proofs.YtcffomhcmilcpaaGreat
