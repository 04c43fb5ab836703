/- Records,one by one,kept and loaded between: the walk. -/
import Derived.Test.YtcffomhcmilcpaaGreatC47
import Derived.Test.YtcffomhcmilcpaaGreatC31
import Derived.BigQuiet
import Derived.Deep.CutRange
import Derived.Deep.CutBlock
set_option maxRecDepth 100000
set_option maxHeartbeats 20000000
set_option linter.unusedVariables false
set_option linter.unusedSimpArgs false
namespace Go.Proofs.YtcffomhcmilcpaaGreat
open Go.RowKit Go.Maps
theorem BothM.turned {w0 W V:World} {q r:Nat} {I J:Im} {X:Nat→Prop} (h:BothM w0 W q r I J X) (hv:∀ k,k<W.heap.size→¬ X k→V.heap[k]?=W.heap[k]?) (hs:W.heap.size≤V.heap.size) (hb:Below w0.heap.size w0 V):BothM w0 V q r I J X:=by
 obtain ⟨Z1,Z2,h1,h2,h3,h4,h5⟩:=h
 exact ⟨Z1,Z2,h1.kept (fun k hk=>hv k (h1.lt k hk) (h3 k hk).2.1) hs,h2.kept (fun k hk=>hv k (h2.lt k hk) (h4 k hk).2) hs,h3,h4,hb⟩
def Rc.turn (R:Rc) (b c d:Int):Rc:=⟨R.kind,R.a,b,c,d,R.name,R.text,R.list⟩
theorem RecM.turn {U:World} {R:Rc} {la:Option Addr} {lc:Nat} (h:RecM U (.agg (RV R.kind R.a R.b R.c R.d R.name R.text la R.list.length lc)) R) {b c d:Int} (hb:I64 b) (hc:I64 c) (hd:I64 d):RecM U (.agg (RV R.kind R.a b c d R.name R.text la R.list.length lc)) (R.turn b c d):=by
 obtain ⟨⟨lv,e,hil⟩,ok,hname⟩:=h
 have e8:lv=.slice la R.list.length lc:=by
  have:=congrArg (fun v=>match v with | .agg cs=>cs[7]? | _=>none) e
  simpa using this.symm
 subst e8
 exact ⟨⟨_,rfl,hil⟩,⟨ok.kind,ok.a,hb,hc,hd⟩,hname⟩
theorem in_turn {X:Nat→Prop} {R:Rc} {la:Option Addr} {lc:Nat} (h:InR X (.agg (RV R.kind R.a R.b R.c R.d R.name R.text la R.list.length lc)) R) (b c d:Int):InR X (.agg (RV R.kind R.a b c d R.name R.text la R.list.length lc)) (R.turn b c d):=by
 intro a1 a2 a3 a4 a5 a6 a7 a8 e
 have e8:a8=.slice la R.list.length lc:=by
  have:=congrArg (fun v=>match v with | .agg cs=>cs[7]? | _=>none) e
  simpa using this.symm
 subst e8
 exact h _ _ _ _ _ _ _ _ rfl
theorem rec_fixed (U:World):RecM U (.agg #[.int .i64 4,.int .i64 1,.int .i64 1,.int .i64 1,.int .i64 0,.string ⟨#[116]⟩,.string ⟨#[]⟩,.slice none 0 0]) ⟨4,1,1,1,0,⟨#[116]⟩,⟨#[]⟩,[]⟩∧∀ X,InR X (.agg #[.int .i64 4,.int .i64 1,.int .i64 1,.int .i64 1,.int .i64 0,.string ⟨#[116]⟩,.string ⟨#[]⟩,.slice none 0 0]) ⟨4,1,1,1,0,⟨#[116]⟩,⟨#[]⟩,[]⟩ :=
 ⟨⟨⟨_,rfl,IL.nil _⟩,⟨by unfold I64;decide,by unfold I64;decide,by unfold I64;decide,by unfold I64;decide,by unfold I64;decide⟩,by show (1:Nat)≤maxLen;unfold maxLen;decide⟩,fun X _ _ _ _ _ _ _ _ _=>In.nil _ _⟩
def PI (w W:World) (q r m:Nat) (I:Im) (X:Nat→Prop):Prop:=BothM w W q r I I X∧TN I∧ImSum I∧I.applied≤(m:Int)
theorem PI.ok {w W:World} {q r m:Nat} {I:Im} {X:Nat→Prop} (h:PI w W q r m I X):LdOk I:=by
 obtain ⟨⟨Z1,Z2,h1,_⟩,h2,h3,h4⟩:=h
 exact ⟨h1.ok,h2.1,h2.2⟩
def RB (w W:World) (q r m x:Nat) (I:Im) (R:Rc) (la:Option Addr) (lc:Nat):Prop:=∃ b c d,I64 b∧I64 c∧I64 d∧W.heap[x]?=some (.cells (RV R.kind R.a b c d R.name R.text la R.list.length lc) 34)∧PI w W q r m I (fun k=>k=x)
theorem PI.fits {w W:World} {q r m:Nat} {I:Im} {X:Nat→Prop} (h:PI w W q r m I X) {R:Rc} (ok:RcOk R) (la:Option Addr) (lc:Nat):Calls Tryz.prog 11 #[.pointer (some ⟨r,0,none⟩),.agg (RV R.kind R.a R.b R.c R.d R.name R.text la R.list.length lc)] W fun e w'=>(∃ b c d,I64 b∧I64 c∧I64 d∧e=.returned (.agg (RV R.kind R.a b c d R.name R.text la R.list.length lc)))∧Below W.heap.size W w':=by
 obtain ⟨⟨Z1,Z2,h1,h2,_⟩,_⟩:=h
 exact fits_any h2 ok la lc
theorem RB.put {w W N:World} {q r m x:Nat} {I:Im} {R:Rc} {la:Option Addr} {lc:Nat} {b c d:Int} {cs:Array Value} (h:PI w W q r m I (fun k=>k=x)) (hx:w.heap.size≤x) (hc:W.heap[x]?=some (.cells cs 34)) (hs:cs.size=8) (hb:I64 b∧I64 c∧I64 d)
  (hN:PutsR W N x 0 [.int .i64 R.kind,.int .i64 R.a,.int .i64 b,.int .i64 c,.int .i64 d,.string R.name,.string R.text,.slice la R.list.length lc]):RB w N q r m x I R la lc :=
 ⟨b,c,d,hb.1,hb.2.1,hb.2.2,hN.box8 hc hs,h.1.turned (fun k _ hk=>hN.other k hk) (by rw [hN.size];exact Nat.le_refl _) (hN.below h.1.below hx),h.2⟩
theorem plays_walk {w:World} {v lv:Value} {ops:List Rc} {fit:List Int} {kp:Int} (h:Script w v ops) (hf:IL w lv fit) (hk:I64 kp):Calls Tryz.prog 3 #[v,lv,.int .i64 kp] w fun e w'=>e=.returned (.bool true)∧Below w.heap.size w w':=by
 obtain ⟨⟨so,cap,rfl,hat⟩,hlen⟩:=h
 have HA:=hid hat
 have HFIT:=hid hf
 obtain ⟨⟨fa,fc,rfl,_,_,_,hfat⟩,_,hfew⟩:=hf
 have HFA:=hid hfat
 have HSH:=hid (shown_any w)
 have HNW:=hid (fun V=>new_any V)
 have HPK:=hid (fun V=>pick_any kp 40 V hk (by omega) (by omega))
 have hlen2:ops.length≤9223372036854775807:=by unfold maxLen at hlen;omega
 clear hat hlen hk hfat
 go_enter Tryz.func3,Tryz.ntmps3
 go_wp2_with fail
 refine HSH.out.mono ?_
 rintro e W0 ⟨rfl,hb0⟩
 have HB0:=hid hb0
 clear hb0 HSH
 go_wp2_with fail
 refine (HNW.out W0).mono ?_
 rintro e W1 ⟨rfl,hi1,hb1⟩
 have HP0:Hid (PI w (W1.alloc (.cells #[.int .i64 0,.slice none 0 0,.slice none 0 0,.slice none 0 0,.slice none 0 0] 32)) (W0.heap.size+1) W1.heap.size 0 Im.new (fun _=>False)):=⟨BothM.new HB0.out hi1 hb1,TN.new,rfl,by show (0:Int)≤_;omega⟩
 clear hi1 hb1 HB0 HNW
 generalize W0.heap.size+1=q0 at *
 go_upto_region 6 with fail
 generalize W1.alloc (.cells #[.int .i64 0,.slice none 0 0,.slice none 0 0,.slice none 0 0,.slice none 0 0] 32)=W2 at *
 generalize W1.heap.size=r at *
 go_wp2_with fail
 go_loopg [8,10] 120 (fun kx s8 s10 wr=>∃ (i q:Nat) (I:Im),i≤120∧120 - i≤kx∧i≤ops.length∧s8=.pointer (some ⟨q,0,none⟩)∧s10=.int .i64 (i:Int)∧Hid (PI w wr q r i I (fun _=>False)))
 case atStart=>exact ⟨0,q0,Im.new,by omega,by omega,by omega,rfl,rfl,HP0⟩
 case round =>
  obtain ⟨i,q,I,hi2,hix,hil,rfl,rfl,HB⟩:=hrel
  clear HP0
  by_cases hlt:i<ops.length
  ·have hlt':(i:Int)<(ops.length:Int):=by omega
   have hi0:(0:Int)≤(i:Int):=by omega
   by_cases h120:i<120
   ·have h120':(i:Int)<120:=by omega
    have hbw:=HB.out.1.below
    have HB0z:Hid (w.heap.size≤wr.heap.size):=hbw.size
    obtain ⟨b,off,la,lc,rfl,hce,hrm,hir⟩:=Script.at HA.out (cap:=cap) i hlt
    have HRM:=hid hrm
    have HIR:=hid hir
    obtain ⟨e0,e1,e2,e3,e4,e5,e6,e7⟩:=hce wr hbw
    have hlf:ops[i].list.length≤17592186044415:=by
     obtain ⟨⟨lv,e,hil⟩,_⟩:=hrm wr hbw
     exact hil.few
    have hnm:ops[i].name.size≤maxLen:=(hrm wr hbw).name
    have HOK:Hid (RcOk ops[i]):=(hrm wr hbw).ok
    clear hce hrm hir
    generalize ops[i]=R at *
    have HX:Hid ((wr.alloc (.cells (RV R.kind R.a R.b R.c R.d R.name R.text la R.list.length lc) 34)).heap[wr.heap.size]?=some (.cells (RV R.kind R.a R.b R.c R.d R.name R.text la R.list.length lc) 34)):=heap_alloc_new _ _
    have HBL:Hid (Below wr.heap.size wr (wr.alloc (.cells (RV R.kind R.a R.b R.c R.d R.name R.text la R.list.length lc) 34))):=(Below.refl _ _).alloc (Nat.le_refl _) _
    have HPI:Hid (PI w (wr.alloc (.cells (RV R.kind R.a R.b R.c R.d R.name R.text la R.list.length lc) 34)) q r i I (fun k=>k=wr.heap.size)):=⟨(HB.out.1.more (Y:=fun k=>k=wr.heap.size) (fun k hk=>.inr (Nat.le_of_eq hk.symm))).under HBL.out,HB.out.2⟩
    go_upto_region 10 with fail
    clear e0 e1 e2 e3 e4 e5 e6 e7 HB hbw
    generalize wr.alloc (.cells (RV R.kind R.a R.b R.c R.d R.name R.text la R.list.length lc) 34)=w1 at *
    have hxl:wr.heap.size<w1.heap.size:=(Array.getElem?_eq_some_iff.1 HX.out).1
    have hxw:w.heap.size≤wr.heap.size:=HB0z.out
    generalize wr.heap.size=x at *
    have HXW:=hid hxw
    clear hxw
    have HXL:=hid hxl
    clear hxl HBL
    have a5:=cell_blk HX.out 5 _ rfl
    have a7:=cell_blk HX.out 7 _ rfl
    by_cases h50:(50:Int)<(R.list.length:Int)
    ·go_wp2_with fail
     go_roundg (120 - (i+1))
     case measure=>omega
     case rel=>exact ⟨i+1,q,I,by omega,Nat.le_refl _,by omega,rfl,by go_num,⟨HPI.out.1.more (fun k hk=>hk.elim),HPI.out.2.1,HPI.out.2.2.1,by have:=HPI.out.2.2.2;push_cast;omega⟩⟩
    ·by_cases h100:(100:Int)<(R.name.size:Int)
     ·go_wp2_with fail
      go_roundg (120 - (i+1))
      case measure=>omega
      case rel=>exact ⟨i+1,q,I,by omega,Nat.le_refl _,by omega,rfl,by go_num,⟨HPI.out.1.more (fun k hk=>hk.elim),HPI.out.2.1,HPI.out.2.2.1,by have:=HPI.out.2.2.2;push_cast;omega⟩⟩
     ·go_upto_region 11 with fail
      clear a5 a7 h50 h100 hlf hnm
      go_cut [65] from 54 to 66 (fun s65 V=>(∃ B,s65=.bool B)∧Hid (V=w1))
      case first =>
       by_cases hfl:i<fit.length
       ·have hfl':(i:Int)<(fit.length:Int):=by omega
        obtain ⟨fb,fo,rfl,_,hfc⟩:=HFA.out (fun e=>by rw [e] at hfl;simp at hfl)
        have f0:=kept_cell HPI.out.1.below (hfc i hfl)
        generalize fit[i]=f at *
        go_wp2_with fail
        go_meet
        case rel=>exact ⟨⟨_,rfl⟩,hid rfl⟩
       ·have hfl':¬ (i:Int)<(fit.length:Int):=by omega
        go_wp2_with fail
        go_meet
        case rel=>exact ⟨⟨_,rfl⟩,hid rfl⟩
      case rest =>
       obtain ⟨⟨B,rfl⟩,HV⟩:=hcut
       have hv:=HV.out
       subst hv
       clear HV
       go_upto_if 65 with fail
       go_cut [] from 66 to 69 (fun V=>Hid (RB w V q r i x I R la lc))
       case first =>
        cases B with
        | false =>
         go_wp2_with fail
         go_meet
         case rel=>exact ⟨R.b,R.c,R.d,HOK.out.b,HOK.out.c,HOK.out.d,HX.out,HPI.out⟩
        | true =>
         have HFT:=hid (HPI.out.fits HOK.out la lc)
         obtain ⟨a0,a1,a2,a3,a4,a5,a6,a7⟩:=cells8 HX.out
         go_wp2_with fail
         refine HFT.out.mono ?_
         rintro e w2 ⟨⟨b2,c2,d2,h1,h2,h3,rfl⟩,hb2⟩
         have HX2:=hid ((hb2.block x HXL.out).trans HX.out)
         have HP2:Hid (PI w w2 q r i I (fun k=>k=x)):=⟨HPI.out.1.under hb2,HPI.out.2⟩
         have HO:=hid (And.intro h1 (And.intro h2 h3))
         clear h1 h2 h3 hb2 a0 a1 a2 a3 a4 a5 a6 a7 HFT
         obtain ⟨a0,a1,a2,a3,a4,a5,a6,a7⟩:=cells8 HX2.out
         have fz:=fun j=>frz_blk HX2.out j
         have hpu:=puts_all [.int .i64 R.kind,.int .i64 R.a,.int .i64 b2,.int .i64 c2,.int .i64 d2,.string R.name,.string R.text,.slice la R.list.length lc] w2 x 0
         have hrb:=RB.put HP2.out HXW.out HX2.out rfl HO.out hpu
         simp only [puts,Nat.zero_add,Nat.reduceAdd] at hrb
         have HRB:=hid hrb
         clear hrb hpu
         go_wp2_with fail
         go_meet
         case rel=>exact HRB
       case rest =>
        have HRB:=hid hcut.out
        clear hcut HPI HX HXL
        generalize wc=w3 at *
        obtain ⟨b2,c2,d2,hb,hc,hd,hx,hpi⟩:=HRB.out
        have HX3:=hid hx
        have HRM3:Hid (∀ V,Below w.heap.size w V→RecM V (.agg (RV R.kind R.a b2 c2 d2 R.name R.text la R.list.length lc)) (R.turn b2 c2 d2)):=fun V hV=>(HRM.out V hV).turn hb hc hd
        have HIR3:Hid (InR (fun k=>k<w.heap.size) (.agg (RV R.kind R.a b2 c2 d2 R.name R.text la R.list.length lc)) (R.turn b2 c2 d2)):=in_turn HIR.out b2 c2 d2
        have hxl3:x<w3.heap.size:=(Array.getElem?_eq_some_iff.1 hx).1
        have hai:I.applied<1000000000000:=by have:=hpi.2.2.2;omega
        have HC1:=hid (hpi.1.one (fun k hk=>by rw [show k=x from hk];exact hxl3) hai hpi.2.2.1 (HRM3.out w3 hpi.1.below) HIR3.out)
        obtain ⟨J,hJ⟩:∃ J,J=applyI I (R.turn b2 c2 d2):=⟨_,rfl⟩
        have HTJ:Hid (TN J.1∧ImSum J.1∧J.1.applied≤((i+1:Nat):Int)):=by
         rw [hJ]
         refine ⟨tn_apply hpi.2.1 _,sum_do (I:=nextI I) hpi.2.2.1 _,?_⟩
         rw [applied_apply]
         have:=hpi.2.2.2
         push_cast
         omega
        have HC2:Hid (∀ U,BothM w U q r J.1 I (fun k=>k=x)→x<U.heap.size→Calls Tryz.prog 13 #[.pointer (some ⟨r,0,none⟩),.agg (RV R.kind R.a b2 c2 d2 R.name R.text la R.list.length lc)] U fun e w'=>e=.returned (.tuple #[.int .i64 J.2.1,.int .i64 J.2.2])∧MOut w U w' q r J.1 J.1 (fun k=>k=x)):=fun U hU hxU=>by
         rw [hJ] at hU ⊢
         exact hU.two (fun k hk=>by rw [show k=x from hk];exact hxU) hai hpi.2.2.1 (HRM3.out U hU.below) HIR3.out
        rw [← hJ] at HC1
        clear hJ hb hc hd hx hpi hxl3 hai HRM3 HIR3 HRM HIR HRB HOK
        obtain ⟨J1,rA,rE⟩:=J
        simp only at HC1 HC2 HTJ
        obtain ⟨a0,a1,a2,a3,a4,a5,a6,a7⟩:=cells8 HX3.out
        go_wp2_with fail
        refine HC1.out.mono ?_
        rintro e w4 ⟨rfl,ho⟩
        have HX4:=hid ((ho.2.1 x rfl).trans HX3.out)
        have HB4:=hid ho.1
        clear a0 a1 a2 a3 a4 a5 a6 a7 ho HC1
        obtain ⟨a0,a1,a2,a3,a4,a5,a6,a7⟩:=cells8 HX4.out
        have hxl4:x<w4.heap.size:=(Array.getElem?_eq_some_iff.1 HX4.out).1
        have HC3:=hid (HC2.out w4 HB4.out hxl4)
        clear HC2 hxl4
        go_wp2_with fail
        refine HC3.out.mono ?_
        rintro e w5 ⟨rfl,ho⟩
        have HP5:Hid (PI w w5 q r (i+1) J1 (fun _=>False)):=⟨ho.1.more (fun k hk=>hk.elim),HTJ.out⟩
        clear a0 a1 a2 a3 a4 a5 a6 a7 ho HC3 HX3 HX4 HB4 HTJ HXW
        go_wp2_with fail
        refine (HP5.out.1.alike HP5.out.2.1).mono ?_
        rintro e w6 ⟨rfl,hb6⟩
        have HP6:Hid (PI w w6 q r (i+1) J1 (fun _=>False)):=⟨HP5.out.1.under hb6,HP5.out.2⟩
        clear hb6 HP5
        go_wp2_with fail
        refine (HPK.out w6).mono ?_
        rintro e w7 ⟨rfl,rfl⟩
        obtain ⟨pk,hpk⟩:∃ pk,pk=pickI kp 40:=⟨_,rfl⟩
        rw [← hpk]
        clear hpk
        by_cases hip:(i:Int)=pk
        ·have hip':((i:Int) == pk)=true:=by simp [hip]
         clear hip
         have HTJ:Hid (TN J1∧ImSum J1∧J1.applied≤((i+1:Nat):Int)):=HP6.out.2
         have HAJ:Hid (J1.applied<1000000000000):=by show _<_;have:=HTJ.out.2.2;push_cast at this;omega
         go_wp2_with fail
         refine HP6.out.1.keep.mono ?_
         rintro e w8 ⟨rfl,hb8⟩
         have HL8:=hid ((HP6.out.1.under hb8).load (fun k hk=>hk.elim) HP6.out.ok)
         clear hb8 HP6
         generalize Go.Proofs.YtcffomhcmilcpaaGreat.W.strOf (keepI J1)=ks at *
         go_wp2_with fail
         refine HL8.out.mono ?_
         rintro e w9 ⟨n,rfl,ht,_⟩
         have HCL:=hid ht.clone
         clear ht HL8
         go_wp2_with fail
         refine HCL.out.mono ?_
         rintro e w10 ⟨c,rfl,hq,_⟩
         have HQ10:=hid hq
         clear hq HCL
         go_wp2_with fail
         refine (rec_any 4 1 1 1 w10).mono ?_
         rintro e w11 ⟨rfl,hb11⟩
         have HAP:=hid ((HQ10.out.under hb11).apply HAJ.out HTJ.out.2.1 (rec_fixed w11).1 ((rec_fixed w11).2 _))
         clear hb11 HQ10
         go_wp2_with fail
         refine HAP.out.mono ?_
         rintro e w12 ⟨⟨a,a',rfl⟩,ht⟩
         have HT12:=hid ht
         clear ht HAP
         go_wp2_with fail
         refine (HT12.out.first.alike HTJ.out.1).mono ?_
         rintro e w13 ⟨rfl,hb13⟩
         have HP13:Hid (PI w w13 n r (i+1) J1 (fun _=>False)):=⟨HT12.out.last.under hb13,HTJ.out⟩
         clear hb13 HT12
         go_wp2_with fail
         go_roundg (120 - (i+1))
         case measure=>omega
         case rel=>exact ⟨i+1,n,J1,by omega,Nat.le_refl _,by omega,rfl,by go_num,HP13⟩
        ·have hip':((i:Int) == pk)=false:=by simp [hip]
         clear hip
         go_wp2_with fail
         go_roundg (120 - (i+1))
         case measure=>omega
         case rel=>exact ⟨i+1,q,J1,by omega,Nat.le_refl _,by omega,rfl,by go_num,HP6⟩
   ·have h120':¬ (i:Int)<120:=by omega
    have HBW:=hid HB.out.1.below
    go_wp2_with fail
    go_ret
    exact ⟨rfl,HBW.out⟩
  ·have hlt':¬ (i:Int)<(ops.length:Int):=by omega
   have HBW:=hid HB.out.1.below
   go_wp2_with fail
   go_ret
   exact ⟨rfl,HBW.out⟩
end Go.Proofs.YtcffomhcmilcpaaGreat
