/- A broker is up. -/
import Derived.Test.YtcffomhcmilcpaaGreatC7
import Derived.Test.YtcffomhcmilcpaaGreatC11
import Derived.Test.YtcffomhcmilcpaaGreatC9
import Derived.Test.YtcffomhcmilcpaaGreatC8
import Derived.Test.YtcffomhcmilcpaaGreatC12
import Derived.Test.YtcffomhcmilcpaaGreatC3
set_option maxRecDepth 100000
set_option maxHeartbeats 20000000
set_option linter.unusedVariables false
set_option linter.unusedSimpArgs false
namespace Go.Proofs.YtcffomhcmilcpaaGreat
open Go.RowKit Go.Maps
theorem kunfence_any {w:World} {Z:Nat→Prop} {q:Nat} {I:Im} (hi:Img w Z q I) {v:Value} {r:Rc} (hr:RecM w v r):Calls Tryz.prog 70 #[.pointer (some ⟨q,0,none⟩),v] w fun e w'=>e=.returned (.tuple #[.int .i64 (unfenceI I r).2.1,.int .i64 (unfenceI I r).2.2])∧IAfter Z w w' q (unfenceI I r).1:=by
 obtain ⟨L,b,vt,vp,ve,ps,h,hz1,hz2,hz3⟩:=hi
 have HIMG:Hid (Img w Z q I):=⟨L,b,vt,vp,ve,ps,h,hz1,hz2,hz3⟩
 have HRM:=hid hr
 obtain ⟨⟨lv,rfl,hil⟩,ok,hname⟩:=hr
 obtain ⟨⟨la,lc,rfl,_⟩,_⟩:=hil
 obtain ⟨rk,ra,rb,rc,rd,rn,rt,rl⟩:=r
 simp only at ok hname HRM ⊢
 have oka:=ok.a
 have okb:=ok.b
 have okc:=ok.c
 simp only at oka okb okc
 have hbA:Below w.heap.size w (w.alloc (.cells (RV rk ra rb rc rd rn rt la rl.length lc) 34)):=(Below.refl _ _).alloc (Nat.le_refl _) _
 have HBA:=hid hbA
 have HI:=hid (h.under hbA)
 have HRM1:=hid (HRM.out.under hbA)
 have HIO:Hid (∀ w' J,IOut L (w.alloc (.cells (RV rk ra rb rc rd rn rt la rl.length lc) 34)) w' q b vt vp ve J→IAfter Z w w' q J):=fun w' J hJ=>hJ.after HIMG.out hz1 hz2 hbA
 have HIS:Hid (∀ w',Below (w.alloc (.cells (RV rk ra rb rc rd rn rt la rl.length lc) 34)).heap.size (w.alloc (.cells (RV rk ra rb rc rd rn rt la rl.length lc) 34)) w'→IAfter Z w w' q I):=fun w' hb=>HIMG.out.after (hbA.trans (hb.mono hbA.size))
 have hB:=heap_alloc_new w (.cells (RV rk ra rb rc rd rn rt la rl.length lc) 34)
 have hqlt:q<w.heap.size:=h.lt (.inl rfl)
 have HOW:Hid (∀ k,Own q b vt vp ve k→k<w.heap.size):=fun k hk=>h.lt hk
 have hWs:(w.alloc (.cells (RV rk ra rb rc rd rn rt la rl.length lc) 34)).heap.size=w.heap.size+1:=by simp
 obtain ⟨a0,a1,a2,a3,a4,a5,a6,a7⟩:=cells8 hB
 have HBX:=hid hB
 clear hbA hB h hz1 hz2 hz3 ok
 have HRF:=hid (refused_any HI.out HRM1.out true)
 have HF:Hid (unfenceI I ⟨rk,ra,rb,rc,rd,rn,rt,rl⟩=if refusedI I ⟨rk,ra,rb,rc,rd,rn,rt,rl⟩ true≠0 then (I,0,refusedI I ⟨rk,ra,rb,rc,rd,rn,rt,rl⟩ true) else ({ I with brs:=putB I.brs ra ⟨rb,true⟩,parts:=I.parts.map (stepP fun p=>backP p ra) },ra,0)):=rfl
 have hcode:=refused_code I ⟨rk,ra,rb,rc,rd,rn,rt,rl⟩ true
 unfold I64 at hcode
 by_cases h0:refusedI I ⟨rk,ra,rb,rc,rd,rn,rt,rl⟩ true=0
 ·rw [if_neg (by simp [h0])] at HF
  obtain ⟨q1,q2,q3,q4⟩:=refused_zero h0
  simp only at q1 q2 q3
  rw [h0] at HRF
  have hlife:=val_life HI.out.ok q2
  rw [← q3] at hlife
  have HPU:Hid (∀ V,Below (w.alloc (.cells (RV rk ra rb rc rd rn rt la rl.length lc) 34)).heap.size (w.alloc (.cells (RV rk ra rb rc rd rn rt la rl.length lc) 34)) V→∃ w',(Instr.mapUpdate 67 (.map (some b)) (.int .i64 ra) (.agg #[.int .i64 rb,.bool true])).run Tryz.prog V=.ok () w'∧ImC w' L q b vt vp ve ps { I with brs:=putB I.brs ra ⟨rb,true⟩ }∧V.grownBy w' (some b)):=fun V hV=>(HI.out.under hV).put (n:=ra) (x:=⟨rb,true⟩) q1 hlife
  have HUP0:Hid (∀ V w' J,Keeps (Own q b vt vp ve) (w.alloc (.cells (RV rk ra rb rc rd rn rt la rl.length lc) 34)) V→IOut L V w' q b vt vp ve J→IAfter Z w w' q J):=fun V w' J hV hJ=>HIO.out w' J (by
   obtain ⟨L',ps',i1,i2,i3⟩:=hJ
   exact ⟨L',ps',i1,fun j hj=>(i2 j hj).elim .inl (fun h=>.inr (Nat.le_trans hV.size h)),hV.trans i3 (fun x hx=>.inl hx)⟩)
  rw [HF.out]
  clear h0 q2 q3 q4 hcode
  obtain ⟨q1a,q1b⟩:=q1
  generalize putB I.brs ra ⟨rb,true⟩=bs at *
  go_enter Tryz.func70,Tryz.ntmps70
  go_wp2_with fail
  generalize w.alloc (.cells (RV rk ra rb rc rd rn rt la rl.length lc) 34)=W at *
  obtain ⟨x,hx⟩:∃ x,x=w.heap.size:=⟨_,rfl⟩
  rw [← hx] at a0 a1 a2 a3 a4 a5 a6 a7 hWs hqlt HBX HOW ⊢
  clear hx
  refine HRF.out.mono ?_
  rintro e w1 ⟨rfl,hb1⟩
  obtain ⟨w2,hup,hI2,hg2⟩:=HPU.out w1.drew hb1.drew
  have HI2:=hid hI2
  have HK2:Hid (Keeps (Own q b vt vp ve) W w2):=(Keeps.of_below hb1.drew).trans (Keeps.of_grown (S:=Own q b vt vp ve) hg2 (fun k hk=>by cases hk;exact .inr (.inl rfl))) (fun x hx=>.inl hx)
  have b1:=kept_cell hb1 a1
  have b2:=kept_cell hb1 a2
  have c1:=(HI.out.under hb1).c1
  clear hb1 HPU HRF a0 a1 a2 a3 a4 a5 a6 a7 hI2 hg2
  go_wp2_with fail
  go_cut [] from 15 to 23 (fun V=>V=w2)
  case first =>
   go_region_with (fail)
   all_goals
    go_wp2_with fail
    go_meet
    case rel=>rfl
  case rest =>
   subst hcut
   clear hup b1 b2 c1
   have HBL:Hid (∀ wr,Keeps (Own q b vt vp ve) wc wr→wr.heap[x]?=some (.cells (RV rk ra rb rc rd rn rt la rl.length lc) 34)):=fun wr hk=>by
    have h1:=(HK2.out.block x (by omega) (fun ho=>by have:=HOW.out x ho;omega)).trans HBX.out
    exact (hk.block x (Array.getElem?_eq_some_iff.1 h1).1 (fun ho=>by have:=HOW.out x ho;omega)).trans h1
   have HUP:=hid (fun w' J=>HUP0.out wc w' J HK2.out)
   have HI1:=HI2
   clear HI2 HUP0 HK2 HBX
   obtain ⟨oa,cap,hvp,hcap,hcm,hnn,hat⟩:=row_shape HI1.out.parts
   have hpl:=HI1.out.plen
   simp only at hpl
   rw [← hpl] at hvp hcap hat
   subst hvp
   have c3:=HI1.out.c3
   have HJ:Hid ((({ I with brs:=bs }:Im)).parts=I.parts):=rfl
   obtain ⟨J,hJ⟩:∃ J,J=({ I with brs:=bs }:Im):=⟨_,rfl⟩
   rw [← hJ] at HI1 HJ
   have HJJ:=hid hJ
   clear hJ hpl hcap hcm hnn
   have hf16:I.parts.length≤16:=by have:=HI1.out.ok.few;rw [HJ.out] at this;exact this
   generalize wc=W1 at *
   go_wp2_with fail
   go_loopg [29] I.parts.length (fun kx s wr=>∃ k:Nat,k≤I.parts.length∧I.parts.length - k≤kx∧s=.int .i64 (k:Int)∧Hid (LoopP W1 wr L q b vt (.slice oa I.parts.length cap) ve J (fun p=>backP p ra) k))
   case atStart=>exact ⟨0,Nat.zero_le _,by omega,rfl,LoopP.start HI1.out⟩
   case round =>
    obtain ⟨k,hk,hkx,rfl,HK⟩:=hrel
    by_cases hlt:k<I.parts.length
    ·obtain ⟨g,rfl⟩:=hat (by omega)
     have hltJ:k<J.parts.length:=by rw [HJ.out];exact hlt
     obtain ⟨x,hx,hxc⟩:=HK.out.at_ hltJ
     have HPM:=hid hx
     obtain ⟨a1,c1,a2,c2,a3,c3,a4,c4,rfl,_⟩:=hx.open
     have hrp:RightP J.parts[k]∧J.parts[k].id=(k:Int)+1:=HI1.out.ok.parts k _ (List.getElem?_eq_getElem hltJ)
     have HNX:Hid (∀ W v r,Below wr.heap.size wr W→r=((fun p=>backP p ra)) J.parts[k]→PartM W v r.1→InP (fun j=>wr.heap.size≤j) v r.1→Calls Tryz.prog 117 #[.pointer (some ⟨q,0,none⟩),v,.int .i64 r.2] W fun e w'=>e=.returned (.tuple #[])∧LoopP W1 w' L q b vt (.slice (some ⟨g,0,none⟩) I.parts.length cap) ve J (fun p=>backP p ra) (k+1)):=fun W v r hb hr hv hX=>HK.out.next hltJ hb hr hv hX (by rw [hr];exact back_code _ _) (fun h0=>by
      rw [hr] at h0
      obtain ⟨j1,j2⟩:=back_ok hrp.1 h0
      rw [hr]
      exact ⟨j1,by rw [← hrp.2];exact j2⟩)
     have HKK:=hid HK.out.keeps
     have x1:=cell_blk (HBL.out wr HKK.out) 1 _ rfl
     have hxl:x<wr.heap.size:=(Array.getElem?_eq_some_iff.1 (HBL.out wr HKK.out)).1
     have hxn:¬ x=wr.heap.size:=by omega
     clear hrp HK
     generalize J.parts[k]=P at *
     have r0:=hxc 0 (by decide) _ rfl
     have r1:=hxc 1 (by decide) _ rfl
     have r2:=hxc 2 (by decide) _ rfl
     have r3:=hxc 3 (by decide) _ rfl
     have r4:=hxc 4 (by decide) _ rfl
     have r5:=hxc 5 (by decide) _ rfl
     have r6:=hxc 6 (by decide) _ rfl
     have r7:=hxc 7 (by decide) _ rfl
     have r8:=hxc 8 (by decide) _ rfl
     rw [Nat.add_zero] at r0
     have hlt':(k:Int)<(I.parts.length:Int):=by omega
     clear hxc hx
     have HB:=hid (heap_alloc_new wr (.cells (PP P a1 c1 a2 c2 a3 c3 a4 c4) 54))
     have HBW:Hid (Below wr.heap.size wr (wr.alloc (.cells (PP P a1 c1 a2 c2 a3 c3 a4 c4) 54))):=(Below.refl _ _).alloc (Nat.le_refl _) _
     have HDE:=hid ((back_any (HPM.out.under HBW.out) ra (by unfold I64;omega)))
     go_wp2_with fail
     refine HDE.out.mono ?_
     rintro e W2 ⟨v2,rfl,hv2,hX2,hb2⟩
     have HC:=hid (HNX.out W2 v2 _ (HBW.out.trans (hb2.mono HBW.out.size)) rfl hv2 (hX2.mono (fun j hj=>Nat.le_trans HBW.out.size hj)))
     obtain ⟨z1,d1,z2,d2,z3,d3,z4,d4,rfl,_⟩:=hv2.open
     clear hv2 hX2 hb2 HDE HNX HPM r0 r1 r2 r3 r4 r5 r6 r7 r8 HB HBW
     go_wp2_with fail
     refine HC.out.mono ?_
     rintro e W3 ⟨rfl,hL3⟩
     have HL3:=hid hL3
     clear hL3 HC
     go_wp2_with fail
     go_roundg (I.parts.length - (k+1))
     case measure=>omega
     case rel=>exact ⟨k+1,by omega,Nat.le_refl _,by go_num,HL3.out⟩
    ·have hlt':¬ (k:Int)<(I.parts.length:Int):=by omega
     have HKE:=HK
     have x1:=cell_blk (HBL.out wr HKE.out.keeps) 1 _ rfl
     clear HK
     go_wp2_with fail
     go_ret2
     refine ⟨rfl,HUP.out wr _ ?_⟩
     obtain ⟨⟨L',ps',i1,i2⟩,i3⟩:=HKE.out
     rw [stepK_all _ _ _ (by rw [HJ.out];omega)] at i1
     refine ⟨L',ps',?_,i2,i3⟩
     rw [HJJ.out] at i1
     exact i1
 ·rw [if_pos h0] at HF
  rw [HF.out]
  generalize refusedI I ⟨rk,ra,rb,rc,rd,rn,rt,rl⟩ true=R at *
  have h0':(R != 0)=true:=by simp [h0]
  go_enter Tryz.func70,Tryz.ntmps70
  go_wp2_with fail
  generalize w.alloc (.cells (RV rk ra rb rc rd rn rt la rl.length lc) 34)=W at *
  obtain ⟨x,hx⟩:∃ x,x=w.heap.size:=⟨_,rfl⟩
  rw [← hx] at a0 a1 a2 a3 a4 a5 a6 a7 hWs hqlt HBX HOW ⊢
  clear hx
  refine HRF.out.mono ?_
  rintro e w1 ⟨rfl,hb1⟩
  have HO:=hid (HIS.out w1 hb1)
  clear hb1
  go_wp2_with fail
  go_ret2
  exact ⟨rfl,HO.out⟩
theorem krefuse_any {w:World} {Z:Nat→Prop} {q:Nat} {I:Im} (hi:Img w Z q I) {v:Value} {r:Rc} (hr:RecM w v r):Calls Tryz.prog 74 #[.pointer (some ⟨q,0,none⟩),v] w fun e w'=>e=.returned (.tuple #[.int .i64 0,.int .i64 1])∧IAfter Z w w' q I:=by
 obtain ⟨⟨lv,rfl,hil⟩,ok,hname⟩:=hr
 obtain ⟨⟨la,lc,rfl,_⟩,_⟩:=hil
 have HA:=hid (fun w1 hb=>hi.after (w1:=w1) hb)
 clear hi
 go_enter Tryz.func74,Tryz.ntmps74
 go_wp2_with fail
 go_ret2
 refine ⟨rfl,HA.out _ ?_⟩
 repeat (first | exact Below.refl _ _ | refine Below.alloc ?_ (by simp) _)
def ImSum (I:Im):Prop:=sumT I.tops=(I.parts.length:Int)
theorem sum_topic {I:Im} (h:ImSum I) (r:Rc):ImSum (topicI I r).1:=by
 unfold topicI
 split
 ·exact h
 ·rename_i h1
  split
  ·exact h
  ·split
   ·exact h
   ·unfold ImSum at h ⊢
    simp only [sumT_append,h,List.length_append,moreP_len,sumT]
    have h2:upB r.a 16=true:=by
     simp only [Bool.or_eq_true,Bool.not_eq_true',not_or,Bool.not_eq_false] at h1
     exact h1.1.1.2
    have:=upB_iff.1 h2
    push_cast
    omega
theorem sum_putOff {I:Im} (h:ImSum I) (n:Int):ImSum (putOffI I n):=by
 unfold ImSum at h ⊢
 simp only [putOffI,List.length_map]
 exact h
theorem sum_do {I:Im} (h:ImSum I) (r:Rc):ImSum (doI I r).1:=by
 unfold doI
 split
 ·unfold registerI
  split
  ·exact h
  ·split
   ·exact h
   ·show sumT (if _ then putOffI I r.a else I).tops=((if _ then putOffI I r.a else I).parts.length:Int)
    split
    ·exact sum_putOff h _
    ·exact h
 ·split
  ·unfold fenceI
   split
   ·exact h
   ·exact sum_putOff h _
  ·split
   ·unfold unfenceI
    split
    ·exact h
    ·unfold ImSum at h ⊢
     simp only [List.length_map]
     exact h
   ·split
    ·exact sum_topic h r
    ·split
     ·unfold turnI
      split
      ·exact h
      ·unfold ImSum takeI at *
       simp only
       split <;> simpa using h
     ·split
      ·unfold pidI
       split
       ·exact h
       ·split
        ·exact h
        ·split
         ·split <;> exact h
         ·split <;> exact h
      ·exact h
theorem apply_any {w:World} {Z:Nat→Prop} {q:Nat} {I:Im} (hi:Img w Z q I) {v:Value} {r:Rc} (hr:RecM w v r) (hnz:InR (fun k=>¬ Z k) v r) (ha:I.applied<1000000000000) (hs:ImSum I) (hk:¬ (r.kind=5∨r.kind=6∨r.kind=7∨r.kind=10∨r.kind=9)) :
  Calls Tryz.prog 12 #[.pointer (some ⟨q,0,none⟩),v] w fun e w'=>e=.returned (.tuple #[.int .i64 (applyI I r).2.1,.int .i64 (applyI I r).2.2])∧IAfter Z w w' q (applyI I r).1:=by
 refine apply_of hi hr hnz ha fun W hW hR=>?_
 unfold kindF doI
 by_cases h1:r.kind=1
 ·rw [if_pos h1,if_pos h1];exact kregister_any hW hR
 rw [if_neg h1,if_neg h1]
 by_cases h2:r.kind=2
 ·rw [if_pos h2,if_pos h2];exact kfence_any hW hR
 rw [if_neg h2,if_neg h2]
 by_cases h3:r.kind=3
 ·rw [if_pos h3,if_pos h3];exact kunfence_any hW hR
 rw [if_neg h3,if_neg h3]
 by_cases h4:r.kind=4
 ·rw [if_pos h4,if_pos h4];exact ktopic_any hW hR hs
 rw [if_neg h4,if_neg h4,if_neg hk,if_neg hk]
 by_cases h8:r.kind=8
 ·rw [if_pos h8,if_pos h8];exact kpid_any hW hR
 rw [if_neg h8,if_neg h8]
 exact krefuse_any hW hR
def IS (w W:World) (q:Nat) (I:Im) (X:Nat→Prop):Prop:=(∃ Z,Img W Z q I∧∀ k,Z k→w.heap.size≤k∧¬ X k)∧Below w.heap.size w W∧ImSum I
theorem IS.under {w W W1:World} {q:Nat} {I:Im} {X:Nat→Prop} (h:IS w W q I X) (hb:Below W.heap.size W W1):IS w W1 q I X:=by
 obtain ⟨⟨Z,h1,h2⟩,h3,h4⟩:=h
 exact ⟨⟨Z,h1.under hb,h2⟩,h3.trans (hb.mono h3.size),h4⟩
theorem IS.beside {w W W1:World} {q:Nat} {I:Im} {X:Nat→Prop} (h:IS w W q I X) (hb:Keeps X W W1) (hw:Below w.heap.size w W1):IS w W1 q I X:=by
 obtain ⟨⟨Z,⟨L,b,vt,vp,ve,ps,h1,hz1,hz2,hz3⟩,h2⟩,h3,h4⟩:=h
 exact ⟨⟨Z,⟨L,b,vt,vp,ve,ps,h1.kept (fun k hk=>hb.block k (h1.lt hk) (h2 k (hz1 k hk)).2) (fun k hk=>hb.block k (h1.lists k hk).1 (h2 k (hz2 k hk)).2) hb.size,hz1,hz2,fun k hk=>Nat.lt_of_lt_of_le (hz3 k hk) hb.size⟩,h2⟩,hw,h4⟩
theorem IS.more {w W:World} {q:Nat} {I:Im} {X Y:Nat→Prop} (h:IS w W q I X) (hY:∀ k,Y k→X k∨W.heap.size≤k):IS w W q I Y:=by
 obtain ⟨⟨Z,⟨L,b,vt,vp,ve,ps,h1,hz1,hz2,hz3⟩,h2⟩,h3,h4⟩:=h
 exact ⟨⟨Z,⟨L,b,vt,vp,ve,ps,h1,hz1,hz2,hz3⟩,fun k hk=>⟨(h2 k hk).1,fun hy=>by
  rcases hY k hy with e | e
  ·exact (h2 k hk).2 e
  ·have:=hz3 k hk;omega⟩⟩,h3,h4⟩
theorem IS.new (w:World) {W W1:World} {X:Nat→Prop} (hb:Below w.heap.size w W) (hX:∀ k,X k→k<W.heap.size) (h:Img W1 (fun k=>k=W.heap.size∨k=W.heap.size+1) (W.heap.size+1) Im.new) (hb2:Below W.heap.size W W1):IS w W1 (W.heap.size+1) Im.new X :=
 ⟨⟨_,h,fun k hk=>⟨by have:=hb.size;omega,fun hx=>by have:=hX k hx;omega⟩⟩,hb.trans (hb2.mono hb.size),rfl⟩
theorem IS.below {w W:World} {q:Nat} {I:Im} {X:Nat→Prop} (h:IS w W q I X):Below w.heap.size w W:=h.2.1
@[reducible] def recV (a b c d:Int):Value:=.agg #[.int .i64 a,.int .i64 b,.int .i64 c,.int .i64 d,.int .i64 0,.string ⟨#[116]⟩,.string ⟨#[]⟩,.slice none 0 0]
theorem rec_ok (W:World) (a b c d:Int) (ha:I64 a) (hb:I64 b) (hc:I64 c) (hd:I64 d):RecM W (recV a b c d) (rcR a b c d) :=
 ⟨⟨_,rfl,IL.nil _⟩,⟨ha,hb,hc,hd,by show I64 0;unfold I64;omega⟩,by show (1:Nat)≤maxLen;unfold maxLen;omega⟩
theorem IS.after {w W W1:World} {Z X:Nat→Prop} {q:Nat} {J:Im} (h3:Below w.heap.size w W) (h2:∀ k,Z k→w.heap.size≤k∧¬ X k) (hX:∀ k,X k→k<W.heap.size) (hj:ImSum J) (h:IAfter Z W W1 q J):IS w W1 q J X∧∀ k,X k→W1.heap[k]?=W.heap[k]?:=by
 obtain ⟨Z',i1,i2,i3⟩:=h
 exact ⟨⟨⟨Z',i1,fun k hk=>(i2 k hk).elim (h2 k) (fun e=>⟨Nat.le_trans h3.size e,fun hx=>by have:=hX k hx;omega⟩)⟩,h3.trans (i3.below h3.size (fun k hk=>(h2 k hk).1)),hj⟩,fun k hk=>i3.block k (hX k hk) (fun hz=>(h2 k hz).2 hk)⟩
def ISOut (w W w':World) (q:Nat) (J:Im) (X:Nat→Prop):Prop:=IS w w' q J X∧(∀ k,X k→w'.heap[k]?=W.heap[k]?)∧W.heap.size≤w'.heap.size
theorem IS.do {w W:World} {q:Nat} {I:Im} {X:Nat→Prop} (h:IS w W q I X) (hX:∀ k,X k→k<W.heap.size) (ha:I.applied<1000000000000) {v:Value} {r:Rc} (hr:RecM W v r) (hl:r.list=[]) (hk:¬ (r.kind=5∨r.kind=6∨r.kind=7∨r.kind=10∨r.kind=9)) {n m:Int} {J:Im} (hres:applyI I r=(J,n,m)) :
  Calls Tryz.prog 12 #[.pointer (some ⟨q,0,none⟩),v] W fun e w'=>e=.returned (.tuple #[.int .i64 n,.int .i64 m])∧ISOut w W w' q J X:=by
 obtain ⟨⟨Z,h1,h2⟩,h3,h4⟩:=h
 refine (apply_any h1 hr (fun _ _ _ _ _ _ _ lv _=>by rw [hl];exact In.nil _ _) ha h4 hk).mono ?_
 have hs:=sum_do (I:=nextI I) h4 r
 rintro e w' ⟨rfl,hA⟩
 have e1:doI (nextI I) r=(J,n,m):=hres
 rw [e1] at hs
 rw [hres] at hA ⊢
 obtain ⟨j1,j2⟩:=IS.after h3 h2 hX hs hA
 obtain ⟨_,_,_,i3⟩:=hA
 exact ⟨rfl,j1,j2,i3.size⟩
theorem IS.rec {w W:World} {q:Nat} {I:Im} {X:Nat→Prop} (h:IS w W q I X) (hX:∀ k,X k→k<W.heap.size) (ha:I.applied<1000000000000) (a b c d:Int) (hk:¬ (a=5∨a=6∨a=7∨a=10∨a=9)) (ka:I64 a) (kb:I64 b) (kc:I64 c) (kd:I64 d) {n m:Int} {J:Im} (hres:applyI I (rcR a b c d)=(J,n,m)) :
  Calls Tryz.prog 12 #[.pointer (some ⟨q,0,none⟩),recV a b c d] W fun e w'=>e=.returned (.tuple #[.int .i64 n,.int .i64 m])∧ISOut w W w' q J X :=
 h.do hX ha (rec_ok W a b c d ka kb kc kd) rfl hk hres
theorem IS.part {w W:World} {q:Nat} {I:Im} {X:Nat→Prop} (h:IS w W q I X) (i:Nat) (p:Pt) (hp:I.parts[i]?=some p) (n:Int) (hn:n=(i:Int)+1):Calls Tryz.prog 30 #[.pointer (some ⟨q,0,none⟩),.int .i64 n] W fun e w'=>PartOut W w' p e:=by
 obtain ⟨⟨Z,h1,h2⟩,h3,h4⟩:=h
 obtain ⟨hi,e⟩:=List.getElem?_eq_some_iff.1 hp
 rw [hn,← e]
 exact part_yes h1 i hi
theorem IS.applied {w W:World} {q:Nat} {I:Im} {X:Nat→Prop} (h:IS w W q I X):Calls Tryz.prog 27 #[.pointer (some ⟨q,0,none⟩)] W fun e w'=>e=.returned (.int .i64 I.applied)∧W=w':=by
 obtain ⟨⟨Z,h1,h2⟩,h3,h4⟩:=h
 exact applied_any h1
theorem elect_any {w:World} {v:Value} {p:Pt} (h:PartM w v p) (l:Int) (hl:I64 l) :
  Calls Tryz.prog 187 #[v,.int .i64 l] w fun e w'=>Res (fun b=>w.heap.size≤b) w (electP p l) e w':=by
 obtain ⟨id,ld,ep,vr,isr,reps,add,rem,mn⟩:=p
 obtain ⟨a1,c1,a2,c2,a3,c3,a4,c4,rfl,q1,q2,q3,q4,i0,i1,i2,i3,i4⟩:=h.open
 simp only at q1 q2 q3 q4 i0 i1 i2 i3 i4 ⊢
 have Q1:=hid q1
 have Q2:=hid q2
 have Q3:=hid q3
 have Q4:=hid q4
 clear h q1 q2 q3 q4
 have HT0:=hid (two_new w (PL id ld ep vr a1 isr c1 a2 reps c2 a3 add c3 a4 rem c4 mn) PZ)
 have G12:Hid (∀ W,Below w.heap.size w W→Calls Tryz.prog 96 #[.agg (PL id ld ep vr a1 isr c1 a2 reps c2 a3 add c3 a4 rem c4 mn)] W fun e w'=>e=.returned (.bool (rightB ⟨id,ld,ep,vr,isr,reps,add,rem,mn⟩))∧Below W.heap.size W w'):=fun W hb=>right_any ⟨_,_,_,_,rfl,Q1.out.under hb,Q2.out.under hb,Q3.out.under hb,Q4.out.under hb,i0,i1,i2,i3,i4⟩
 have G15:Hid (∀ W,Below w.heap.size w W→Calls Tryz.prog 62 #[.agg (PL id ld ep vr a1 isr c1 a2 reps c2 a3 add c3 a4 rem c4 mn)] W fun e w'=>∃ v',e=.returned v'∧PartM w' v' ⟨id,ld,ep,vr,isr,reps,add,rem,mn⟩∧InP (fun b=>W.heap.size≤b) v' ⟨id,ld,ep,vr,isr,reps,add,rem,mn⟩∧Below W.heap.size W w'):=fun W hb=>clone_any ⟨_,_,_,_,rfl,Q1.out.under hb,Q2.out.under hb,Q3.out.under hb,Q4.out.under hb,i0,i1,i2,i3,i4⟩
 have G58:=hid (fun W=>isBroker_any l W hl)
 have G50:Hid (∀ W,Below w.heap.size w W→Calls Tryz.prog 158 #[.slice a1 isr.length c1,.int .i64 l] W fun e w'=>e=.returned (.bool (lackB isr l))∧W=w'):=fun W hb=>lacks_any (Q1.out.under hb) l hl
 have HE:Hid (electP ⟨id,ld,ep,vr,isr,reps,add,rem,mn⟩ l=if !rightB ⟨id,ld,ep,vr,isr,reps,add,rem,mn⟩ || (!decide (l=0) && !upB l 7) then (Pt.zero,1) else if !decide (l=0) && lackB isr l then (Pt.zero,19) else if l=ld then (⟨id,ld,ep,vr,isr,reps,add,rem,mn⟩,0) else changedP ⟨id,ld,ep,vr,isr,reps,add,rem,mn⟩ l):=rfl
 have HBD:Hid (rightB ⟨id,ld,ep,vr,isr,reps,add,rem,mn⟩=true→(1≤ep∧ep≤1000000000)∧(1≤vr∧vr≤1000000000)):=fun e=>⟨(rightB_iff.1 e).epoch,(rightB_iff.1 e).ver⟩
 generalize electP ⟨id,ld,ep,vr,isr,reps,add,rem,mn⟩ l=r at *
 generalize hc:changedP ⟨id,ld,ep,vr,isr,reps,add,rem,mn⟩ l=r2 at *
 obtain ⟨⟨rid,rld,rep,rvr,rl1,rl2,rl3,rl4,rmn⟩,re⟩:=r2
 have HC:=hid hc
 generalize rightB ⟨id,ld,ep,vr,isr,reps,add,rem,mn⟩=B1 at *
 generalize upB l 7=B2 at *
 generalize lackB isr l=B3 at *
 have HI0:Hid (I64 ld):=i1
 clear hc i0 i1 i2 i3 i4 Q1 Q2 Q3 Q4
 go_enter Tryz.func187,Tryz.ntmps187
 go_wp2_with fail
 generalize (w.alloc (.cells (PL id ld ep vr a1 isr c1 a2 reps c2 a3 add c3 a4 rem c4 mn) 54)).alloc (.cells PZ 54)=W0 at *
 refine (G12.out _ HT0.out.b).mono ?_
 rintro e W1 ⟨rfl,hb⟩
 have HT1:=hid (HT0.out.next hb)
 clear hb
 obtain ⟨k0,k1,k2,k3,k4,k5,k6,k7,k8⟩:=cells9 HT1.out.x
 obtain ⟨z0,z1,z2,z3,z4,z5,z6,z7,z8⟩:=cells9 HT1.out.z
 have fx:=frz_blk HT1.out.x
 have fz:=frz_blk HT1.out.z
 cases B1
 ·have HR:Hid (r=(Pt.zero,1)):=by show _=_;rw [HE.out];simp
  go_wp2_with fail
  exact leaf9 HT1.out rfl Tryz.results187 (n:=.int .i64 1) rfl rfl rfl fun W9 HT9 hsz9 HOFF=>(by rw [HR.out];exact res_err _ HT9.out.b)
 obtain ⟨hep,hvr⟩:=HBD.out rfl
 by_cases h0:l=0
 ·subst h0
  by_cases h1:ld=0
  ·subst h1
   have HR:Hid (r=(⟨id,0,ep,vr,isr,reps,add,rem,mn⟩,0)):=by show _=_;rw [HE.out];simp
   clear HE HC
   go_wp2_with fail
   refine (G15.out _ HT1.out.b).mono ?_
   rintro e W2 ⟨v',rfl,h1,h2,hb⟩
   have h2':=h2.mono (Y:=fun b=>w.heap.size+2≤b) fun b hx=>Nat.le_trans HT1.out.s hx
   obtain ⟨x1,y1,x2,y2,x3,y3,x4,y4,rfl,q1,q2,q3,q4,ii⟩:=h1.open
   obtain ⟨n1,n2,n3,n4⟩:=h2' _ _ _ _ _ _ _ _ _ rfl
   simp only at q1 q2 q3 q4 n1 n2 n3 n4 ii
   have HT2:=hid (HT1.out.next hb)
   have HL:Hid (IA w W2 (.slice x1 isr.length y1) isr∧IA w W2 (.slice x2 reps.length y2) reps∧IA w W2 (.slice x3 add.length y3) add∧IA w W2 (.slice x4 rem.length y4) rem):=⟨⟨q1,n1.mono fun b hx=>.inr hx⟩,⟨q2,n2.mono fun b hx=>.inr hx⟩,⟨q3,n3.mono fun b hx=>.inr hx⟩,⟨q4,n4.mono fun b hx=>.inr hx⟩⟩
   have HN:Hid (InP (fun b=>w.heap.size≤b) (.agg (PL id 0 ep vr x1 isr y1 x2 reps y2 x3 add y3 x4 rem y4 mn)) ⟨id,0,ep,vr,isr,reps,add,rem,mn⟩):=h2'.mono fun b hx=>by omega
   have HI:=hid ii
   clear q1 q2 q3 q4 n1 n2 n3 n4 ii h1 h2 h2' hb k0 k1 k2 k3 k4 k5 k6 k7 k8 z0 z1 z2 z3 z4 z5 z6 z7 z8 fx fz
   obtain ⟨k0,k1,k2,k3,k4,k5,k6,k7,k8⟩:=cells9 HT2.out.x
   obtain ⟨z0,z1,z2,z3,z4,z5,z6,z7,z8⟩:=cells9 HT2.out.z
   have fx:=frz_blk HT2.out.x
   have fz:=frz_blk HT2.out.z
   go_wp2_with fail
   exact leaf9 HT2.out rfl Tryz.results187 (n:=.int .i64 0) rfl rfl rfl fun W9 HT9 hsz9 HOFF=>(by rw [HR.out];exact ⟨_,rfl,⟨_,_,_,_,rfl,HL.out.1.offz HOFF.out hsz9,HL.out.2.1.offz HOFF.out hsz9,HL.out.2.2.1.offz HOFF.out hsz9,HL.out.2.2.2.offz HOFF.out hsz9,HI.out⟩,HN.out,HT9.out.b⟩)
  ·have h1':¬ (0:Int)=ld:=fun e=>h1 e.symm
   have HR:Hid (r=(⟨rid,rld,rep,rvr,rl1,rl2,rl3,rl4,rmn⟩,re)):=by show _=_;rw [HE.out];simp [h1']
   have HC0:=hid HC.out
   clear HE HC
   go_wp2_with fail
   refine (G15.out _ HT1.out.b).mono ?_
   rintro e W2 ⟨v',rfl,h1,h2,hb⟩
   have h2':=h2.mono (Y:=fun b=>w.heap.size+2≤b) fun b hx=>Nat.le_trans HT1.out.s hx
   obtain ⟨x1,y1,x2,y2,x3,y3,x4,y4,rfl,q1,q2,q3,q4,ii⟩:=h1.open
   obtain ⟨n1,n2,n3,n4⟩:=h2' _ _ _ _ _ _ _ _ _ rfl
   simp only at q1 q2 q3 q4 n1 n2 n3 n4 ii
   have HT2:=hid (HT1.out.next hb)
   have G53:=hid (changed_any h1 h2' 0 hl hep hvr)
   rw [HC0.out] at G53
   clear q1 q2 q3 q4 n1 n2 n3 n4 ii h1 h2 h2' hb k0 k1 k2 k3 k4 k5 k6 k7 k8 z0 z1 z2 z3 z4 z5 z6 z7 z8 fx fz
   obtain ⟨k0,k1,k2,k3,k4,k5,k6,k7,k8⟩:=cells9 HT2.out.x
   obtain ⟨z0,z1,z2,z3,z4,z5,z6,z7,z8⟩:=cells9 HT2.out.z
   have fx:=frz_blk HT2.out.x
   have fz:=frz_blk HT2.out.z
   go_wp2_with fail
   refine G53.out.mono ?_
   rintro e W3 ⟨v',rfl,h1,h2,hb⟩
   obtain ⟨t1,u1,t2,u2,t3,u3,t4,u4,rfl,q1,q2,q3,q4,ii⟩:=h1.open
   obtain ⟨n1,n2,n3,n4⟩:=h2 _ _ _ _ _ _ _ _ _ rfl
   simp only at q1 q2 q3 q4 n1 n2 n3 n4 ii
   have HT3:=hid (HT2.out.next hb)
   have HL:Hid (IA w W3 (.slice t1 rl1.length u1) rl1∧IA w W3 (.slice t2 rl2.length u2) rl2∧IA w W3 (.slice t3 rl3.length u3) rl3∧IA w W3 (.slice t4 rl4.length u4) rl4):=⟨⟨q1,n1.mono fun b hx=>.inr hx⟩,⟨q2,n2.mono fun b hx=>.inr hx⟩,⟨q3,n3.mono fun b hx=>.inr hx⟩,⟨q4,n4.mono fun b hx=>.inr hx⟩⟩
   have HN:Hid (InP (fun b=>w.heap.size≤b) (.agg (PL rid rld rep rvr t1 rl1 u1 t2 rl2 u2 t3 rl3 u3 t4 rl4 u4 rmn)) ⟨rid,rld,rep,rvr,rl1,rl2,rl3,rl4,rmn⟩):=h2.mono fun b hx=>by omega
   have HI:=hid ii
   clear q1 q2 q3 q4 n1 n2 n3 n4 ii h1 h2 hb k0 k1 k2 k3 k4 k5 k6 k7 k8 z0 z1 z2 z3 z4 z5 z6 z7 z8 fx fz
   obtain ⟨k0,k1,k2,k3,k4,k5,k6,k7,k8⟩:=cells9 HT3.out.x
   obtain ⟨z0,z1,z2,z3,z4,z5,z6,z7,z8⟩:=cells9 HT3.out.z
   have fx:=frz_blk HT3.out.x
   have fz:=frz_blk HT3.out.z
   go_wp2_with fail
   exact leaf9 HT3.out rfl Tryz.results187 (n:=.int .i64 re) rfl rfl rfl fun W9 HT9 hsz9 HOFF=>(by rw [HR.out];exact ⟨_,rfl,⟨_,_,_,_,rfl,HL.out.1.offz HOFF.out hsz9,HL.out.2.1.offz HOFF.out hsz9,HL.out.2.2.1.offz HOFF.out hsz9,HL.out.2.2.2.offz HOFF.out hsz9,HI.out⟩,HN.out,HT9.out.b⟩)
 ·have HNZ:Hid (decide (l=0)=false):=decide_eq_false h0
  rw [HNZ.out] at HE
  go_wp2_with fail
  refine (G58.out _).mono ?_
  rintro e W2 ⟨rfl,rfl⟩
  cases B2
  ·have HR:Hid (r=(Pt.zero,1)):=by show _=_;rw [HE.out];simp
   go_wp2_with fail
   exact leaf9 HT1.out rfl Tryz.results187 (n:=.int .i64 1) rfl rfl rfl fun W9 HT9 hsz9 HOFF=>(by rw [HR.out];exact res_err _ HT9.out.b)
  go_wp2_with fail
  refine (G50.out _ HT1.out.b).mono ?_
  rintro e W2 ⟨rfl,rfl⟩
  cases B3
  ·by_cases h1:l=ld
   ·subst h1
    have HR:Hid (r=(⟨id,l,ep,vr,isr,reps,add,rem,mn⟩,0)):=by show _=_;rw [HE.out];simp
    clear HE HC
    go_wp2_with fail
    refine (G15.out _ HT1.out.b).mono ?_
    rintro e W2 ⟨v',rfl,h1,h2,hb⟩
    have h2':=h2.mono (Y:=fun b=>w.heap.size+2≤b) fun b hx=>Nat.le_trans HT1.out.s hx
    obtain ⟨x1,y1,x2,y2,x3,y3,x4,y4,rfl,q1,q2,q3,q4,ii⟩:=h1.open
    obtain ⟨n1,n2,n3,n4⟩:=h2' _ _ _ _ _ _ _ _ _ rfl
    simp only at q1 q2 q3 q4 n1 n2 n3 n4 ii
    have HT2:=hid (HT1.out.next hb)
    have HL:Hid (IA w W2 (.slice x1 isr.length y1) isr∧IA w W2 (.slice x2 reps.length y2) reps∧IA w W2 (.slice x3 add.length y3) add∧IA w W2 (.slice x4 rem.length y4) rem):=⟨⟨q1,n1.mono fun b hx=>.inr hx⟩,⟨q2,n2.mono fun b hx=>.inr hx⟩,⟨q3,n3.mono fun b hx=>.inr hx⟩,⟨q4,n4.mono fun b hx=>.inr hx⟩⟩
    have HN:Hid (InP (fun b=>w.heap.size≤b) (.agg (PL id l ep vr x1 isr y1 x2 reps y2 x3 add y3 x4 rem y4 mn)) ⟨id,l,ep,vr,isr,reps,add,rem,mn⟩):=h2'.mono fun b hx=>by omega
    have HI:=hid ii
    clear q1 q2 q3 q4 n1 n2 n3 n4 ii h1 h2 h2' hb k0 k1 k2 k3 k4 k5 k6 k7 k8 z0 z1 z2 z3 z4 z5 z6 z7 z8 fx fz
    obtain ⟨k0,k1,k2,k3,k4,k5,k6,k7,k8⟩:=cells9 HT2.out.x
    obtain ⟨z0,z1,z2,z3,z4,z5,z6,z7,z8⟩:=cells9 HT2.out.z
    have fx:=frz_blk HT2.out.x
    have fz:=frz_blk HT2.out.z
    go_wp2_with fail
    exact leaf9 HT2.out rfl Tryz.results187 (n:=.int .i64 0) rfl rfl rfl fun W9 HT9 hsz9 HOFF=>(by rw [HR.out];exact ⟨_,rfl,⟨_,_,_,_,rfl,HL.out.1.offz HOFF.out hsz9,HL.out.2.1.offz HOFF.out hsz9,HL.out.2.2.1.offz HOFF.out hsz9,HL.out.2.2.2.offz HOFF.out hsz9,HI.out⟩,HN.out,HT9.out.b⟩)
   ·have HR:Hid (r=(⟨rid,rld,rep,rvr,rl1,rl2,rl3,rl4,rmn⟩,re)):=by show _=_;rw [HE.out];simp [h1]
    have HC0:=hid HC.out
    clear HE HC
    go_wp2_with fail
    refine (G15.out _ HT1.out.b).mono ?_
    rintro e W2 ⟨v',rfl,h1,h2,hb⟩
    have h2':=h2.mono (Y:=fun b=>w.heap.size+2≤b) fun b hx=>Nat.le_trans HT1.out.s hx
    obtain ⟨x1,y1,x2,y2,x3,y3,x4,y4,rfl,q1,q2,q3,q4,ii⟩:=h1.open
    obtain ⟨n1,n2,n3,n4⟩:=h2' _ _ _ _ _ _ _ _ _ rfl
    simp only at q1 q2 q3 q4 n1 n2 n3 n4 ii
    have HT2:=hid (HT1.out.next hb)
    have G53:=hid (changed_any h1 h2' l hl hep hvr)
    rw [HC0.out] at G53
    clear q1 q2 q3 q4 n1 n2 n3 n4 ii h1 h2 h2' hb k0 k1 k2 k3 k4 k5 k6 k7 k8 z0 z1 z2 z3 z4 z5 z6 z7 z8 fx fz
    obtain ⟨k0,k1,k2,k3,k4,k5,k6,k7,k8⟩:=cells9 HT2.out.x
    obtain ⟨z0,z1,z2,z3,z4,z5,z6,z7,z8⟩:=cells9 HT2.out.z
    have fx:=frz_blk HT2.out.x
    have fz:=frz_blk HT2.out.z
    go_wp2_with fail
    refine G53.out.mono ?_
    rintro e W3 ⟨v',rfl,h1,h2,hb⟩
    obtain ⟨t1,u1,t2,u2,t3,u3,t4,u4,rfl,q1,q2,q3,q4,ii⟩:=h1.open
    obtain ⟨n1,n2,n3,n4⟩:=h2 _ _ _ _ _ _ _ _ _ rfl
    simp only at q1 q2 q3 q4 n1 n2 n3 n4 ii
    have HT3:=hid (HT2.out.next hb)
    have HL:Hid (IA w W3 (.slice t1 rl1.length u1) rl1∧IA w W3 (.slice t2 rl2.length u2) rl2∧IA w W3 (.slice t3 rl3.length u3) rl3∧IA w W3 (.slice t4 rl4.length u4) rl4):=⟨⟨q1,n1.mono fun b hx=>.inr hx⟩,⟨q2,n2.mono fun b hx=>.inr hx⟩,⟨q3,n3.mono fun b hx=>.inr hx⟩,⟨q4,n4.mono fun b hx=>.inr hx⟩⟩
    have HN:Hid (InP (fun b=>w.heap.size≤b) (.agg (PL rid rld rep rvr t1 rl1 u1 t2 rl2 u2 t3 rl3 u3 t4 rl4 u4 rmn)) ⟨rid,rld,rep,rvr,rl1,rl2,rl3,rl4,rmn⟩):=h2.mono fun b hx=>by omega
    have HI:=hid ii
    clear q1 q2 q3 q4 n1 n2 n3 n4 ii h1 h2 hb k0 k1 k2 k3 k4 k5 k6 k7 k8 z0 z1 z2 z3 z4 z5 z6 z7 z8 fx fz
    obtain ⟨k0,k1,k2,k3,k4,k5,k6,k7,k8⟩:=cells9 HT3.out.x
    obtain ⟨z0,z1,z2,z3,z4,z5,z6,z7,z8⟩:=cells9 HT3.out.z
    have fx:=frz_blk HT3.out.x
    have fz:=frz_blk HT3.out.z
    go_wp2_with fail
    exact leaf9 HT3.out rfl Tryz.results187 (n:=.int .i64 re) rfl rfl rfl fun W9 HT9 hsz9 HOFF=>(by rw [HR.out];exact ⟨_,rfl,⟨_,_,_,_,rfl,HL.out.1.offz HOFF.out hsz9,HL.out.2.1.offz HOFF.out hsz9,HL.out.2.2.1.offz HOFF.out hsz9,HL.out.2.2.2.offz HOFF.out hsz9,HI.out⟩,HN.out,HT9.out.b⟩)
  ·have HR:Hid (r=(Pt.zero,19)):=by show _=_;rw [HE.out];simp
   go_wp2_with fail
   exact leaf9 HT1.out rfl Tryz.results187 (n:=.int .i64 19) rfl rfl rfl fun W9 HT9 hsz9 HOFF=>(by rw [HR.out];exact res_err _ HT9.out.b)
end Go.Proofs.YtcffomhcmilcpaaGreat
