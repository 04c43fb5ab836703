/- A producer has an id,or a higher epoch. -/
import Derived.Test.YtcffomhcmilcpaaGreatC7
set_option maxRecDepth 100000
set_option maxHeartbeats 20000000
set_option linter.unusedVariables false
set_option linter.unusedSimpArgs false
namespace Go.Proofs.YtcffomhcmilcpaaGreat
open Go.RowKit Go.Maps
def IOut2 (L:Nat→Prop) (w w':World) (q b:Nat) (vt vp ve:Value) (J:Im):Prop:=∃ vt' vp' ve' L' ps',ImC w' L' q b vt' vp' ve' ps' J∧(∀ k,Own q b vt' vp' ve' k→Own q b vt vp ve k∨w.heap.size≤k)∧(∀ j,L' j→L j∨w.heap.size≤j)∧Keeps (Own q b vt vp ve) w w'
theorem IOut2.after {L:Nat→Prop} {w W w':World} {q b:Nat} {vt vp ve:Value} {J I:Im} {Z:Nat→Prop} (h:IOut2 L W w' q b vt vp ve J) (h0:Img w Z q I) (h1:∀ k,Own q b vt vp ve k→Z k) (h2:∀ k,L k→Z k) (hb:Below w.heap.size w W):IAfter Z w w' q J:=by
 obtain ⟨vt',vp',ve',L',ps',i1,i4,i2,i3⟩:=h
 exact ImC.after (L:=L) (b:=b) (vt:=vt) (vp:=vp) (ve:=ve) (ps:=ps') (I:=I) h0 i1 (fun k hk=>(i4 k hk).elim (fun h=>.inl (h1 k h)) (fun h=>.inr (Nat.le_trans hb.size h))) (fun k hk=>(i2 k hk).elim (fun h=>.inl (h2 k h)) (fun h=>.inr (Nat.le_trans hb.size h))) ((Keeps.of_below hb).trans i3 (fun x hx=>.inl (h1 x hx)))
theorem ImOk.eps2 {I:Im} (h:ImOk I) {l:List Int} (h1:l.length≤1000) (h2:∀ x∈l,0≤x∧x≤1000000000):ImOk { I with eps:=l }:=⟨h.keys,h.brs,h.parts,h.few,h.tops,h.name,h.nums,h1,h2,h.app⟩
theorem newPid_any {w:World} {L:Nat→Prop} {q b:Nat} {vt vp ve:Value} {ps:List (Value × Pt)} {I:Im} (h:ImC w L q b vt vp ve ps I) (hf:I.eps.length<1000):Calls Tryz.prog 123 #[.pointer (some ⟨q,0,none⟩)] w fun e w'=>e=.returned (.tuple #[.int .i64 ((I.eps.length:Int)+1),.int .i64 0])∧IOut2 L w w' q b vt vp ve { I with eps:=I.eps++[0] }:=by
 obtain ⟨i0,hi0,hz0,hz1,hz2⟩:=info3
 have c4:=h.c4
 have f4:=h.fz 4
 have hqlt:q<w.heap.size:=h.lt (.inl rfl)
 have HI:=hid h
 have HX:Hid ((w.alloc (.cells #[.int .i64 0] 3)).ownsRow 0 3 1 ve I.eps.length (intsV I.eps)):=h.eps.alloc _
 have HN1:Hid (∀ j u,([.int .i64 0]:List Value)[j]?=some u→(w.alloc (.cells #[.int .i64 0] 3)).cell? ((⟨w.heap.size,0,none⟩:Addr).add j)=some u):=fun j u hu=>by
  cases j with
  | zero=>simp at hu;subst hu;rw [add_at];exact cell_blk (heap_alloc_new _ _) 0 _ rfl
  | succ j=>simp at hu
 have HO1:Hid (∀ u∈([.int .i64 0]:List Value),u.oneCell'=true):=fun u hu=>by simp at hu;subst hu;rfl
 obtain ⟨oa,cap,rfl,_⟩:=row_shape h.eps
 have hlt:¬ 1000≤(I.eps.length:Int):=by omega
 have hlt2:(I.eps.length:Int)<1000:=by omega
 have hwz:(w.alloc (.cells #[.int .i64 0] 3)).heap.size=w.heap.size+1:=by simp
 have HAFT:Hid (∀ (g c:Nat) (w2:World),w2.ownsRow 0 3 1 (.slice (some ⟨g,0,none⟩) (I.eps.length+1) c) (I.eps.length+1) (intsV I.eps++[.int .i64 0])→(w.alloc (.cells #[.int .i64 0] 3)).grownBy w2 (Value.slice oa I.eps.length cap).ownBlock→((Value.slice oa I.eps.length cap).ownBlock=some g∨g=w.heap.size+1) →
   w2.cell? ⟨q,4,none⟩=some (.slice oa I.eps.length cap)∧w2.frozen? ⟨q,4,none⟩=false∧IOut2 L w (w2.setCell ⟨q,4,none⟩ (.slice (some ⟨g,0,none⟩) (I.eps.length+1) c)) q b vt vp (.slice oa I.eps.length cap) { I with eps:=I.eps++[0] }):=fun g c w2 hown2 hg2 hat2=>by
  have hqc:w2.heap[q]?=some (.cells #[.int .i64 I.applied,.map (some b),vt,vp,.slice oa I.eps.length cap] 70):=by
   rw [hg2.block q (by simp;omega) (fun e=>HI.out.ne_q.2.2 e.symm),Below.heap_alloc _ _ _ hqlt]
   exact HI.out.cells
  have hs2:=hg2.size
  refine ⟨cell_blk hqc 4 _ rfl,frz_blk hqc 4,?_⟩
  have hnew:∀ k,(Value.slice (some ⟨g,0,none⟩) (I.eps.length+1) c).ownBlock=some k→(Value.slice oa I.eps.length cap).ownBlock=some k∨w.heap.size≤k:=fun k hk=>by
   cases hk
   rcases hat2 with e | e
   ·exact .inl e
   ·exact .inr (by show w.heap.size≤g;omega)
  have hoth:∀ k,k<w.heap.size→k≠q→(Value.slice oa I.eps.length cap).ownBlock≠some k→(w2.setCell ⟨q,4,none⟩ (.slice (some ⟨g,0,none⟩) (I.eps.length+1) c)).heap[k]?=w.heap[k]?:=fun k hk hkq hke=>by
   rw [Below.heap_setCell _ _ _ _ hkq,hg2.block k (by rw [hwz];omega) (fun e=>hke e.symm),Below.heap_alloc _ _ _ hk]
  refine ⟨_,_,_,_,_,HI.out.swapE (by simp;omega) hoth (set_box hqc) ?_ hnew (HI.out.ok.eps2 (by simp;omega) (fun x hx=>?_)),fun k hk=>?_,fun j hj=>.inl hj,⟨?_,?_,?_,?_,?_⟩⟩
  ·have hqv:(Value.slice (some ⟨g,0,none⟩) (I.eps.length+1) c).ownBlock≠some q:=fun e=>by
    rcases hnew q e with e | e
    ·exact HI.out.ne_q.2.2 e
    ·omega
   have h3:=row_kept hown2 (w1:=w2.setCell ⟨q,4,none⟩ (.slice (some ⟨g,0,none⟩) (I.eps.length+1) c)) (fun k hk=>Below.heap_setCell _ _ _ _ (fun e=>hqv (by rw [hk,e])))
   rw [List.length_append]
   simpa [intsV] using h3
  ·rcases List.mem_append.1 hx with hx | hx
   ·exact HI.out.ok.epv x hx
   ·simp at hx;subst hx;omega
  ·rcases hk with e | e | e | e | e
   ·exact .inl (.inl e)
   ·exact .inl (.inr (.inl e))
   ·exact .inl (.inr (.inr (.inl e)))
   ·exact .inl (.inr (.inr (.inr (.inl e))))
   ·rcases hnew k e with e | e
    ·exact .inl (.inr (.inr (.inr (.inr e))))
    ·exact .inr e
  ·exact hg2.os
  ·exact hg2.tape
  ·exact hg2.output
  ·simp;omega
  ·intro k hk hS
   exact hoth k hk (fun e=>hS (.inl e)) (fun e=>hS (.inr (.inr (.inr (.inr e)))))
 clear h
 have HWZ:=hid hwz
 clear hwz
 go_enter Tryz.func123,Tryz.ntmps123
 go_wp2_with (at_builtin;go_loud (refine wpList_append_lies _ rfl _ _ 23 rfl 0 3 i0 _ 1 8 Tryz.underlying23 hi0 hz0 hz1 hz2 rfl (by decide) _ I.eps.length _ rfl HX.out ⟨w.heap.size,0,none⟩ 1 1 [.int .i64 0] rfl rfl HN1.out HO1.out (by decide) (by unfold maxLen;omega) (by omega) (Nat.zero_le _) (w.heap.size+1) HWZ.out ?_);intro g c w2 hown2 hg2 hat2 _;obtain ⟨k4,g4,ho⟩:=HAFT.out g c w2 hown2 hg2 hat2;have HOUT:=hid ho;clear ho hown2 hg2 hat2)
 go_ret2
 exact ⟨by push_cast;rfl,HOUT.out⟩
theorem newPid_no {w:World} {L:Nat→Prop} {q b:Nat} {vt vp ve:Value} {ps:List (Value × Pt)} {I:Im} (h:ImC w L q b vt vp ve ps I) (hf:1000≤I.eps.length):Calls Tryz.prog 123 #[.pointer (some ⟨q,0,none⟩)] w fun e w'=>e=.returned (.tuple #[.int .i64 0,.int .i64 3])∧Below w.heap.size w w':=by
 have c4:=h.c4
 obtain ⟨oa,cap,rfl,_⟩:=row_shape h.eps
 have h3':1000≤(I.eps.length:Int):=by omega
 clear h
 go_enter Tryz.func123,Tryz.ntmps123
 go_wp2_with fail
 go_ret2
 exact ⟨rfl,Below.refl _ _⟩
theorem kpid_any {w:World} {Z:Nat→Prop} {q:Nat} {I:Im} (hi:Img w Z q I) {v:Value} {r:Rc} (hr:RecM w v r):Calls Tryz.prog 73 #[.pointer (some ⟨q,0,none⟩),v] w fun e w'=>e=.returned (.tuple #[.int .i64 (pidI I r).2.1,.int .i64 (pidI I r).2.2])∧IAfter Z w w' q (pidI I r).1:=by
 obtain ⟨L,b,vt,vp,ve,ps,h,hz1,hz2,hz3⟩:=hi
 have HIMG:Hid (Img w Z q I):=⟨L,b,vt,vp,ve,ps,h,hz1,hz2,hz3⟩
 have HRM:=hid hr
 obtain ⟨⟨lv,rfl,hil⟩,ok,hname⟩:=hr
 obtain ⟨⟨la,lc,rfl,_⟩,_⟩:=hil
 obtain ⟨rk,ra,rb,rc,rd,rn,rt,rl⟩:=r
 simp only at ok hname HRM ⊢
 have oka:=ok.a
 have okb:=ok.b
 have okc:=ok.c
 simp only at oka okb okc
 have hbA:Below w.heap.size w (w.alloc (.cells (RV rk ra rb rc rd rn rt la rl.length lc) 34)):=(Below.refl _ _).alloc (Nat.le_refl _) _
 have HBA:=hid hbA
 have HI:=hid (h.under hbA)
 have HRM1:=hid (HRM.out.under hbA)
 have HIO:Hid (∀ w' J,IOut L (w.alloc (.cells (RV rk ra rb rc rd rn rt la rl.length lc) 34)) w' q b vt vp ve J→IAfter Z w w' q J):=fun w' J hJ=>hJ.after HIMG.out hz1 hz2 hbA
 have HIO2:Hid (∀ w' J,IOut2 L (w.alloc (.cells (RV rk ra rb rc rd rn rt la rl.length lc) 34)) w' q b vt vp ve J→IAfter Z w w' q J):=fun w' J hJ=>hJ.after HIMG.out hz1 hz2 hbA
 have HIS:Hid (∀ w',Below (w.alloc (.cells (RV rk ra rb rc rd rn rt la rl.length lc) 34)).heap.size (w.alloc (.cells (RV rk ra rb rc rd rn rt la rl.length lc) 34)) w'→IAfter Z w w' q I):=fun w' hb=>HIMG.out.after (hbA.trans (hb.mono hbA.size))
 have hB:=heap_alloc_new w (.cells (RV rk ra rb rc rd rn rt la rl.length lc) 34)
 have hqlt:q<w.heap.size:=h.lt (.inl rfl)
 have HOW:Hid (∀ k,Own q b vt vp ve k→k<w.heap.size):=fun k hk=>h.lt hk
 have hWs:(w.alloc (.cells (RV rk ra rb rc rd rn rt la rl.length lc) 34)).heap.size=w.heap.size+1:=by simp
 obtain ⟨a0,a1,a2,a3,a4,a5,a6,a7⟩:=cells8 hB
 have HBX:=hid hB
 clear hbA hB h hz1 hz2 hz3 ok
 have HF:Hid (pidI I ⟨rk,ra,rb,rc,rd,rn,rt,rl⟩=if ra<0 then (I,0,1) else if (I.eps.length:Int)<ra then (I,0,8) else if ra=0 then (if 1000≤I.eps.length then (I,0,3) else ({ I with eps:=I.eps++[0] },(I.eps.length:Int)+1,0)) else if 1000000000≤(I.eps[ra.toNat - 1]?).getD 0 then (I,0,20) else ({ I with eps:=I.eps.set (ra.toNat - 1) ((I.eps[ra.toNat - 1]?).getD 0+1) },(I.eps[ra.toNat - 1]?).getD 0+1,0)):=rfl
 generalize pidI I ⟨rk,ra,rb,rc,rd,rn,rt,rl⟩=R at *
 have c4:=HI.out.c4
 have hlen:=HI.out.ok.eps
 unfold I64 at oka
 obtain ⟨oa,cap,hve,hcap,hcm,hnn,hat⟩:=row_shape HI.out.eps
 subst hve
 have HSW:=hid (HIS.out _ (Below.refl _ _))
 by_cases h0:ra<0
 ·rw [if_pos h0] at HF
  go_enter Tryz.func73,Tryz.ntmps73
  go_wp2_with fail
  go_ret2
  exact ⟨by rw [HF.out];rfl,by rw [HF.out];exact HSW.out⟩
 rw [if_neg h0] at HF
 have HSD:=hid (HIS.out _ (Below.refl _ _).drew)
 by_cases h1:(I.eps.length:Int)<ra
 ·rw [if_pos h1] at HF
  go_enter Tryz.func73,Tryz.ntmps73
  go_upto_region 3 with fail
  generalize w.alloc (.cells (RV rk ra rb rc rd rn rt la rl.length lc) 34)=W at *
  obtain ⟨x,hx⟩:∃ x,x=w.heap.size:=⟨_,rfl⟩
  rw [← hx] at a0 a1 a2 a3 a4 a5 a6 a7 hWs hqlt HBX HOW ⊢
  clear hx
  go_region_with (fail)
  all_goals
   go_wp2_with fail
   go_ret2
   exact ⟨by rw [HF.out];rfl,by rw [HF.out];exact HSD.out⟩
 rw [if_neg h1] at HF
 by_cases h2:ra=0
 ·rw [if_pos h2] at HF
  have HPN:Hid (∀ V,Below (w.alloc (.cells (RV rk ra rb rc rd rn rt la rl.length lc) 34)).heap.size (w.alloc (.cells (RV rk ra rb rc rd rn rt la rl.length lc) 34)) V→ImC V L q b vt vp (.slice oa I.eps.length cap) ps I):=fun V hV=>HI.out.under hV
  have h2':(ra == 0)=true:=by simp [h2]
  clear h2
  by_cases h3:1000≤I.eps.length
  ·rw [if_pos h3] at HF
   have h3':1000≤(I.eps.length:Int):=by omega
   have HPF:=hid (newPid_no (HPN.out _ (Below.refl _ _).drew) h3)
   have HSZ:Hid (∀ w',Below (w.alloc (.cells (RV rk ra rb rc rd rn rt la rl.length lc) 34)).drew.heap.size (w.alloc (.cells (RV rk ra rb rc rd rn rt la rl.length lc) 34)).drew w'→IAfter Z w w' q I):=fun w' hb=>HIS.out w' ((Below.refl _ _).drew.trans hb)
   go_enter Tryz.func73,Tryz.ntmps73
   go_upto_region 3 with fail
   generalize w.alloc (.cells (RV rk ra rb rc rd rn rt la rl.length lc) 34)=W at *
   obtain ⟨x,hx⟩:∃ x,x=w.heap.size:=⟨_,rfl⟩
   rw [← hx] at a0 a1 a2 a3 a4 a5 a6 a7 hWs hqlt HBX HOW ⊢
   clear hx
   go_region_with (fail)
   all_goals
    go_wp2_with fail
    refine HPF.out.mono ?_
    rintro e w1 ⟨rfl,hb1⟩
    have HS1:=hid (HSZ.out w1 hb1)
    clear hb1
    go_wp2_with fail
    go_ret2
    exact ⟨by rw [HF.out];rfl,by rw [HF.out];exact HS1.out⟩
  ·rw [if_neg h3] at HF
   have HPF:=hid (newPid_any (HPN.out _ (Below.refl _ _).drew) (by omega))
   have HSZ:Hid (∀ w' J,IOut2 L (w.alloc (.cells (RV rk ra rb rc rd rn rt la rl.length lc) 34)).drew w' q b vt vp (.slice oa I.eps.length cap) J→IAfter Z w w' q J):=fun w' J hJ=>HIO2.out w' J (by
    obtain ⟨t1,t2,t3,t4,t5,i1,i4,i2,i3⟩:=hJ
    exact ⟨t1,t2,t3,t4,t5,i1,i4,i2,(Keeps.of_below (Below.refl _ _).drew).trans i3 (fun x hx=>.inl hx)⟩)
   go_enter Tryz.func73,Tryz.ntmps73
   go_upto_region 3 with fail
   generalize w.alloc (.cells (RV rk ra rb rc rd rn rt la rl.length lc) 34)=W at *
   obtain ⟨x,hx⟩:∃ x,x=w.heap.size:=⟨_,rfl⟩
   rw [← hx] at a0 a1 a2 a3 a4 a5 a6 a7 hWs hqlt HBX HOW ⊢
   clear hx
   go_region_with (fail)
   all_goals
    go_wp2_with fail
    refine HPF.out.mono ?_
    rintro e w1 ⟨rfl,ho⟩
    have HS1:=hid (HSZ.out w1 _ ho)
    clear ho
    go_wp2_with fail
    go_ret2
    exact ⟨by rw [HF.out];rfl,by rw [HF.out];exact HS1.out⟩
 rw [if_neg h2] at HF
 obtain ⟨i,hi⟩:∃ i:Nat,ra=(i:Int)+1:=⟨ra.toNat - 1,by omega⟩
 have hil:i<I.eps.length:=by omega
 have hge:(I.eps[ra.toNat - 1]?).getD 0=I.eps[i]:=by
  rw [show ra.toNat - 1=i by omega]
  simp [hil]
 have hti:ra.toNat - 1=i:=by omega
 rw [hge,hti] at HF
 obtain ⟨g,rfl⟩:=hat (by omega)
 have hev:=HI.out.ok.epv I.eps[i] (by simp)
 obtain ⟨ce,fe⟩:=HI.out.ep i hil
 have HSE:Hid (∀ V,Below (w.alloc (.cells (RV rk ra rb rc rd rn rt la rl.length lc) 34)).heap.size (w.alloc (.cells (RV rk ra rb rc rd rn rt la rl.length lc) 34)) V→I.eps[i]<1000000000→IAfter Z w (V.setCell ⟨g,i,none⟩ (.int .i64 (I.eps[i]+1))) q { I with eps:=I.eps.set i (I.eps[i]+1) }):=fun V hV hlt=>HIO2.out _ _ ⟨_,_,_,_,_,(HI.out.under hV).setE i hil (I.eps[i]+1) (by omega),fun k hk=>.inl hk,fun j hj=>.inl hj,(Keeps.of_below hV).trans (Keeps.set (S:=Own q b vt vp (.slice (some ⟨g,0,none⟩) I.eps.length cap)) V (a:=⟨g,i,none⟩) (.inr (.inr (.inr (.inr rfl)))) _) (fun x hx=>.inl hx)⟩
 have hil':(i:Int)<(I.eps.length:Int):=by omega
 have h2':(ra == 0)=false:=by simp [h2]
 have hwr:IntKind.i64.wrap (ra - 1)=(i:Int):=by rw [show ra - 1=(i:Int) by omega];exact IntWalk.i64_in _ ⟨by omega,by omega⟩
 generalize I.eps[i]=y at *
 clear hge hti hi h2
 by_cases h4:1000000000≤y
 ·rw [if_pos h4] at HF
  have HSD2:=hid (HIS.out _ ((Below.refl _ _).drew.drew))
  go_enter Tryz.func73,Tryz.ntmps73
  go_upto_region 3 with fail
  generalize w.alloc (.cells (RV rk ra rb rc rd rn rt la rl.length lc) 34)=W at *
  obtain ⟨x,hx⟩:∃ x,x=w.heap.size:=⟨_,rfl⟩
  rw [← hx] at a0 a1 a2 a3 a4 a5 a6 a7 hWs hqlt HBX HOW ⊢
  clear hx
  go_cut [11] from 11 to 19 (fun s11 V=>s11=.bool false∧V=W.drew)
  case first =>
   go_region_with (fail)
   all_goals
    go_wp2_with fail
    go_meet
    case rel=>exact ⟨rfl,rfl⟩
  case rest =>
   obtain ⟨rfl,rfl⟩:=hcut
   go_wp2_with fail
   go_region_with (fail)
   all_goals
    go_wp2_with fail
    go_ret2
    exact ⟨by rw [HF.out];rfl,by rw [HF.out];exact HSD2.out⟩
 ·rw [if_neg h4] at HF
  have HSD2:=hid (HSE.out _ ((Below.refl _ _).drew.drew) (by omega))
  have hwy:IntKind.i64.wrap (y+1)=y+1:=IntWalk.i64_in _ ⟨by omega,by omega⟩
  have h4':y<1000000000:=by omega
  go_enter Tryz.func73,Tryz.ntmps73
  go_upto_region 3 with fail
  generalize w.alloc (.cells (RV rk ra rb rc rd rn rt la rl.length lc) 34)=W at *
  obtain ⟨x,hx⟩:∃ x,x=w.heap.size:=⟨_,rfl⟩
  rw [← hx] at a0 a1 a2 a3 a4 a5 a6 a7 hWs hqlt HBX HOW ⊢
  clear hx
  go_cut [11] from 11 to 19 (fun s11 V=>s11=.bool false∧V=W.drew)
  case first =>
   go_region_with (fail)
   all_goals
    go_wp2_with fail
    go_meet
    case rel=>exact ⟨rfl,rfl⟩
  case rest =>
   obtain ⟨rfl,rfl⟩:=hcut
   go_wp2_with fail
   go_region_with (fail)
   all_goals
    go_wp2_with fail
    go_ret2
    exact ⟨by rw [HF.out];rfl,by rw [HF.out];exact HSD2.out⟩
end Go.Proofs.YtcffomhcmilcpaaGreat
