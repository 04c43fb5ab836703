/- A record of today. -/
import Derived.Test.YtcffomhcmilcpaaGreatC18
import Derived.Test.YtcffomhcmilcpaaGreatC23
import Derived.BigQuiet
import Derived.Deep.CutRange
import Derived.Deep.CutBlock
set_option maxRecDepth 100000
set_option maxHeartbeats 20000000
set_option linter.unusedVariables false
set_option linter.unusedSimpArgs false
namespace Go.Proofs.YtcffomhcmilcpaaGreat
open Go.RowKit Go.Maps
def FitB (w:World) (x:Nat) (r:Rc) (la:Option Addr) (lc:Nat) (wr:World):Prop:=∃ b,I64 b∧wr.heap[x]?=some (.cells (RV r.kind r.a b r.c r.d r.name r.text la r.list.length lc) 34)∧Below x w wr∧x+2≤wr.heap.size∧wr.heap[x+1]?=some (.cells #[.int .i64 0,.int .i64 0,.int .i64 0,.int .i64 0,.int .i64 0,.string ⟨#[]⟩,.string ⟨#[]⟩,.slice none 0 0] 34)
theorem FitB.set {w:World} {x:Nat} {r:Rc} {la:Option Addr} {lc:Nat} {wr:World} (h:FitB w x r la lc wr) (b:Int) (hb:I64 b):FitB w x r la lc (wr.setCell ⟨x,2,none⟩ (.int .i64 b)):=by
 obtain ⟨b0,_,h1,h2,h3,h4⟩:=h
 refine ⟨b,hb,set_box h1,h2.trans ⟨rfl,rfl,rfl,by simp,fun k hk=>Below.heap_setCell _ _ _ _ (by show k≠x;omega)⟩,by simpa using h3,?_⟩
 rw [← h4]
 exact Below.heap_setCell _ _ _ _ (by show x+1≠x;omega)
theorem FitB.below {w:World} {x:Nat} {r:Rc} {la:Option Addr} {lc:Nat} {wr:World} (h:FitB w x r la lc wr) (hx:x=w.heap.size):Below w.heap.size w wr:=by
 obtain ⟨b0,_,h1,h2,h3,h4⟩:=h
 rw [← hx];exact h2
theorem FitB.under {w:World} {x:Nat} {r:Rc} {la:Option Addr} {lc:Nat} {wr V:World} (h:FitB w x r la lc wr) (hb:Below wr.heap.size wr V):FitB w x r la lc V:=by
 obtain ⟨b0,h0,h1,h2,h3,h4⟩:=h
 exact ⟨b0,h0,(hb.block x (by omega)).trans h1,h2.trans (hb.mono (by omega)),Nat.le_trans h3 hb.size,(hb.block _ (by omega)).trans h4⟩
theorem FitB.drew {w:World} {x:Nat} {r:Rc} {la:Option Addr} {lc:Nat} {wr:World} (h:FitB w x r la lc wr):FitB w x r la lc wr.drew:=h.under (Below.refl _ _).drew
theorem FitB.drewN {w:World} {x:Nat} {r:Rc} {la:Option Addr} {lc:Nat} {wr:World} (h:FitB w x r la lc wr) (n:Nat):FitB w x r la lc (wr.drewN n):=h.under (below_drewN (Below.refl _ _) n)
def FitC (w:World) (x:Nat) (r:Rc) (la:Option Addr) (lc:Nat) (b c d:Int) (wr:World):Prop:=(I64 b∧I64 c∧I64 d)∧wr.heap[x]?=some (.cells (RV r.kind r.a b c d r.name r.text la r.list.length lc) 34)∧Below x w wr∧x+2≤wr.heap.size∧wr.heap[x+1]?=some (.cells #[.int .i64 0,.int .i64 0,.int .i64 0,.int .i64 0,.int .i64 0,.string ⟨#[]⟩,.string ⟨#[]⟩,.slice none 0 0] 34)
section
variable {w:World} {x:Nat} {r:Rc} {la:Option Addr} {lc:Nat} {b c d:Int} {wr:World}
theorem FitC.under {V:World} (h:FitC w x r la lc b c d wr) (hb:Below wr.heap.size wr V):FitC w x r la lc b c d V:=by
 obtain ⟨h0,h1,h2,h3,h4⟩:=h
 exact ⟨h0,(hb.block x (by omega)).trans h1,h2.trans (hb.mono (by omega)),Nat.le_trans h3 hb.size,(hb.block _ (by omega)).trans h4⟩
theorem FitC.drew (h:FitC w x r la lc b c d wr):FitC w x r la lc b c d wr.drew:=h.under (Below.refl _ _).drew
theorem FitC.drewN (h:FitC w x r la lc b c d wr) (n:Nat):FitC w x r la lc b c d (wr.drewN n):=h.under (below_drewN (Below.refl _ _) n)
theorem FitC.off {j:Nat} {v:Value} (h:FitC w x r la lc b c d wr):Below x w (wr.setCell ⟨x,j,none⟩ v)∧x+2≤(wr.setCell ⟨x,j,none⟩ v).heap.size∧(wr.setCell ⟨x,j,none⟩ v).heap[x+1]?=some (.cells #[.int .i64 0,.int .i64 0,.int .i64 0,.int .i64 0,.int .i64 0,.string ⟨#[]⟩,.string ⟨#[]⟩,.slice none 0 0] 34):=by
 obtain ⟨h0,h1,h2,h3,h4⟩:=h
 exact ⟨h2.trans ⟨rfl,rfl,rfl,by simp,fun k hk=>Below.heap_setCell _ _ _ _ (by show k≠x;omega)⟩,by simpa using h3,(Below.heap_setCell _ _ _ _ (by show x+1≠x;omega)).trans h4⟩
theorem FitC.set2 (h:FitC w x r la lc b c d wr) (n:Int) (hn:I64 n):FitC w x r la lc n c d (wr.setCell ⟨x,2,none⟩ (.int .i64 n)):=⟨⟨hn,h.1.2.1,h.1.2.2⟩,set_box h.2.1,h.off⟩
theorem FitC.set3 (h:FitC w x r la lc b c d wr) (n:Int) (hn:I64 n):FitC w x r la lc b n d (wr.setCell ⟨x,3,none⟩ (.int .i64 n)):=⟨⟨h.1.1,hn,h.1.2.2⟩,set_box h.2.1,h.off⟩
theorem FitC.set4 (h:FitC w x r la lc b c d wr) (n:Int) (hn:I64 n):FitC w x r la lc b c n (wr.setCell ⟨x,4,none⟩ (.int .i64 n)):=⟨⟨h.1.1,h.1.2.1,hn⟩,set_box h.2.1,h.off⟩
end
theorem leader_i64 {p:Pt} (h:RightP p):I64 p.leader:=by
 unfold I64
 rcases h.lead with h1 | h1
 ·omega
 ·have:=h.isr.2 _ h1
  omega
theorem at_world {F:World→Prop} {W:World} (Q:World→Prop) (h:Q W) (k:∀ V,Q V→F V):F W:=k W h
theorem PutsR.box8 {W N:World} {q:Nat} {v0 v1 v2 v3 v4 v5 v6 v7:Value} (h:PutsR W N q 0 [v0,v1,v2,v3,v4,v5,v6,v7]) {cs:Array Value} {T:TypeId} (hc:W.heap[q]?=some (.cells cs T)) (hs:cs.size=8):N.heap[q]?=some (.cells #[v0,v1,v2,v3,v4,v5,v6,v7] T):=by
 obtain ⟨cs',h1,h2,h3⟩:=h.blk _ _ hc
 have:cs'=#[v0,v1,v2,v3,v4,v5,v6,v7]:=by
  apply Array.ext_getElem?
  intro j
  rw [h3 j]
  by_cases hj:j<8
  ·rw [if_pos (by simp;omega)]
   simp
  ·rw [if_neg (by simp;omega),Array.getElem?_eq_none (by omega),Array.getElem?_eq_none (by simp;omega)]
 rw [h1,this]
theorem fits_any {w:World} {Z:Nat→Prop} {q:Nat} {I:Im} (hi:DImg w Z q I) {r:Rc} (ok:RcOk r) (la:Option Addr) (lc:Nat):Calls Tryz.prog 11 #[.pointer (some ⟨q,0,none⟩),.agg (RV r.kind r.a r.b r.c r.d r.name r.text la r.list.length lc)] w fun e w'=>(∃ b c d,I64 b∧I64 c∧I64 d∧e=.returned (.agg (RV r.kind r.a b c d r.name r.text la r.list.length lc)))∧Below w.heap.size w w':=by
 obtain ⟨L,vb,vt,vp,ve,ps,h,_⟩:=hi
 have hl7:=keys_few h.ok.keys (fun p hp=>(h.ok.brs p hp).1)
 have HBR:=hid h.ok.brs
 have HOK:=hid ok
 obtain ⟨ob,cb,rfl,_,_,_,hat⟩:=row_shape h.brs
 obtain ⟨oa,cap,hvp,_,_,_,hatp⟩:=row_shape h.parts
 have hpl:=h.plen
 have hf16:=h.ok.few
 rw [← hpl] at hvp hatp
 subst hvp
 have HPLN:=hid hpl
 have hqlt:q<w.heap.size:=h.lt (.inl rfl)
 have HI:=hid h
 have oka:=ok.a
 have okk:=ok.kind
 obtain ⟨rk,ra,rb,rc,rd,rn,rt,rl⟩:=r
 simp only at oka okk ⊢
 clear h ok hpl
 have H0:Hid (FitB w w.heap.size ⟨rk,ra,rb,rc,rd,rn,rt,rl⟩ la lc ((w.alloc (.cells (RV rk ra rb rc rd rn rt la rl.length lc) 34)).alloc (.cells #[.int .i64 0,.int .i64 0,.int .i64 0,.int .i64 0,.int .i64 0,.string ⟨#[]⟩,.string ⟨#[]⟩,.slice none 0 0] 34))):=by
  refine ⟨rb,HOK.out.b,?_,((Below.refl _ _).alloc (Nat.le_refl _) _).alloc (by simp) _,by simp,?_⟩
  ·exact (Below.heap_alloc _ _ _ (by simp)).trans (heap_alloc_new w _)
  ·have:=heap_alloc_new (w.alloc (.cells (RV rk ra rb rc rd rn rt la rl.length lc) 34)) (.cells #[.int .i64 0,.int .i64 0,.int .i64 0,.int .i64 0,.int .i64 0,.string ⟨#[]⟩,.string ⟨#[]⟩,.slice none 0 0] 34)
   simpa using this
 go_enter Tryz.func11,Tryz.ntmps11
 go_upto_region 1 with fail
 generalize (w.alloc (.cells (RV rk ra rb rc rd rn rt la rl.length lc) 34)).alloc (.cells #[.int .i64 0,.int .i64 0,.int .i64 0,.int .i64 0,.int .i64 0,.string ⟨#[]⟩,.string ⟨#[]⟩,.slice none 0 0] 34)=W at *
 obtain ⟨x,hx⟩:∃ x,x=w.heap.size:=⟨_,rfl⟩
 rw [← hx] at H0 hqlt ⊢
 have HX:=hid hx
 clear hx
 unfold I64 at oka okk
 go_wp2_with fail
 go_loopg [5] I.brs.length (fun kx s5 wr=>∃ i:Nat,i≤I.brs.length∧I.brs.length - i≤kx∧s5=.int .i64 (i:Int)∧Hid (FitB w x ⟨rk,ra,rb,rc,rd,rn,rt,rl⟩ la lc wr))
 case atStart=>exact ⟨0,by omega,by omega,rfl,H0⟩
 case round =>
  obtain ⟨i,hi,hix,rfl,HF⟩:=hrel
  clear H0
  have HW:=hid (HI.out.under (HF.out.below HX.out))
  have d1:=HW.out.c1
  obtain ⟨b0,hb0,hbx,_⟩:=id HF.out
  simp only at hbx
  have a0:=cell_blk hbx 0 _ rfl
  have a1:=cell_blk hbx 1 _ rfl
  have a2:=cell_blk hbx 2 _ rfl
  have fz:=frz_blk hbx 2
  clear hbx
  by_cases hlt:i<I.brs.length
  ·obtain ⟨g,rfl⟩:=hat (by omega)
   obtain ⟨e0,e1,e2⟩:=HW.out.br i _ (List.getElem?_eq_getElem hlt)
   have hbr:=HBR.out I.brs[i] (List.getElem_mem hlt)
   have hlt':(i:Int)<(I.brs.length:Int):=by omega
   generalize I.brs[i]=z at *
   obtain ⟨y,lf,u⟩:=z
   simp only at e0 e1 hbr
   obtain ⟨⟨hy1,hy7⟩,hl1,hl2⟩:=hbr
   have hxg:¬ x=g:=fun e=>by
    have:=row_lt HI.out.brs (k:=g) rfl
    have:=HX.out
    omega
   have hgx:¬ g=x:=fun e=>hxg e.symm
   have hlw:IntKind.i64.wrap (lf+1)=lf+1:=IntWalk.i64_in _ ⟨by omega,by omega⟩
   by_cases h1:y=ra
   ·have h1':(y == ra)=true:=by simp [h1]
    have HE:=hid h1
    clear h1
    by_cases h2:rk=2
    ·have k2:(rk == 2)=true:=by simp [h2]
     have k1:(rk == 1)=false:=by simp;omega
     clear h2
     go_wp2_with fail
     go_quiet (fail)
     go_wp2_with fail
     go_quiet (fail)
     go_wp2_with fail
     go_roundg (I.brs.length - (i+1))
     case measure=>omega
     case rel=>exact ⟨i+1,by omega,Nat.le_refl _,by go_num,hid (by repeat (first | exact HF.out | apply FitB.drew | apply FitB.drewN | refine FitB.set ?_ _ (by unfold I64;omega)))⟩
    ·have k2:(rk == 2)=false:=by simp [h2]
     by_cases h3:rk=3
     ·have k3:(rk == 3)=true:=by simp [h3]
      have k1:(rk == 1)=false:=by simp;omega
      clear h2 h3
      go_wp2_with fail
      go_quiet (fail)
      go_wp2_with fail
      go_quiet (fail)
      go_wp2_with fail
      go_roundg (I.brs.length - (i+1))
      case measure=>omega
      case rel=>exact ⟨i+1,by omega,Nat.le_refl _,by go_num,hid (by repeat (first | exact HF.out | apply FitB.drew | apply FitB.drewN | refine FitB.set ?_ _ (by unfold I64;omega)))⟩
     ·have k3:(rk == 3)=false:=by simp [h3]
      by_cases h4:rk=1
      ·have k1:(rk == 1)=true:=by simp [h4]
       clear h2 h3 h4
       go_wp2_with fail
       go_quiet (fail)
       go_wp2_with fail
       go_quiet (fail)
       go_wp2_with fail
       go_roundg (I.brs.length - (i+1))
       case measure=>omega
       case rel=>exact ⟨i+1,by omega,Nat.le_refl _,by go_num,hid (by repeat (first | exact HF.out | apply FitB.drew | apply FitB.drewN | refine FitB.set ?_ _ (by unfold I64;omega)))⟩
      ·have k1:(rk == 1)=false:=by simp [h4]
       clear h2 h3 h4
       go_wp2_with fail
       go_quiet (fail)
       go_wp2_with fail
       go_quiet (fail)
       go_wp2_with fail
       go_roundg (I.brs.length - (i+1))
       case measure=>omega
       case rel=>exact ⟨i+1,by omega,Nat.le_refl _,by go_num,hid (by repeat (first | exact HF.out | apply FitB.drew | apply FitB.drewN | refine FitB.set ?_ _ (by unfold I64;omega)))⟩
   ·have h1':(y == ra)=false:=by simp [h1]
    have HE:=hid h1
    clear h1
    go_wp2_with fail
    go_quiet (fail)
    go_wp2_with fail
    go_quiet (fail)
    go_wp2_with fail
    go_roundg (I.brs.length - (i+1))
    case measure=>omega
    case rel=>exact ⟨i+1,by omega,Nat.le_refl _,by go_num,hid (by repeat (first | exact HF.out | apply FitB.drew | apply FitB.drewN | refine FitB.set ?_ _ (by unfold I64;omega)))⟩
  ·have hlt':¬ (i:Int)<(I.brs.length:Int):=by omega
   clear a0 a1 a2 fz hix hat
   have c3:=HW.out.c3
   obtain ⟨b0,hb0,hbx,hbw,hbs,hbz⟩:=id HF.out
   simp only at hbx
   have HB:=hid hbx
   have HBZ:=hid hbz
   have HBW:Hid (Below w.heap.size w wr):=HF.out.below HX.out
   have HB0:=hid hb0
   obtain ⟨a0,a1,a2,a3,a4,a5,a6,a7⟩:=cells8 hbx
   have fz:=fun j=>frz_blk hbz j
   obtain ⟨z0,z1,z2,z3,z4,z5,z6,z7⟩:=cells8 hbz
   have hxz:¬ x=x+1:=by omega
   have hzx:¬ x+1=x:=by omega
   have HFC:Hid (FitC w x ⟨rk,ra,rb,rc,rd,rn,rt,rl⟩ la lc b0 rc rd wr):=⟨⟨hb0,HOK.out.c,HOK.out.d⟩,hbx,hbw,hbs,hbz⟩
   clear hbx hbw hbz hb0 HF HB HBZ HBW HB0
   by_cases h5:rk=5
   ·have k5:(rk == 5)=true:=by simp [h5]
    clear h5
    by_cases h6:1≤ra
    ·by_cases h7:ra≤(I.parts.length:Int)
     ·obtain ⟨g,rfl⟩:=hatp (by omega)
      obtain ⟨k,hk⟩:∃ k:Nat,ra=(k:Int)+1:=⟨ra.toNat - 1,by omega⟩
      have hkl:k<I.parts.length:=by omega
      obtain ⟨pv,hpm,_,hrr⟩:=HW.out.pt k hkl
      obtain ⟨x1,y1,x2,y2,x3,y3,x4,y4,hu,hp⟩:=hpm.open
      subst hu
      have hnum:=HW.out.ok.parts k I.parts[k] (List.getElem?_eq_getElem hkl)
      generalize I.parts[k]=p at *
      have r0:=hrr 0 (by decide) _ rfl
      have r1:=hrr 1 (by decide) _ rfl
      have r2:=hrr 2 (by decide) _ rfl
      have r3:=hrr 3 (by decide) _ rfl
      have r4:=hrr 4 (by decide) _ rfl
      have r5:=hrr 5 (by decide) _ rfl
      have r6:=hrr 6 (by decide) _ rfl
      have r7:=hrr 7 (by decide) _ rfl
      have r8:=hrr 8 (by decide) _ rfl
      rw [Nat.add_zero] at r0
      have HM:Hid (∀ V,Below wr.heap.size wr V→V.cell? ⟨q,3,none⟩=some (.slice (some ⟨g,0,none⟩) I.parts.length cap)∧V.cell? ⟨x,1,none⟩=some (.int .i64 ra)∧V.cell? ⟨g,k*9,none⟩=some (.int .i64 p.id)∧V.cell? ⟨g,k*9+1,none⟩=some (.int .i64 p.leader)∧V.cell? ⟨g,k*9+2,none⟩=some (.int .i64 p.epoch)∧V.cell? ⟨g,k*9+3,none⟩=some (.int .i64 p.ver)∧V.cell? ⟨g,k*9+4,none⟩=some (.slice x1 p.isr.length y1)∧V.cell? ⟨g,k*9+5,none⟩=some (.slice x2 p.reps.length y2)∧V.cell? ⟨g,k*9+6,none⟩=some (.slice x3 p.add.length y3)∧V.cell? ⟨g,k*9+7,none⟩=some (.slice x4 p.rem.length y4)∧V.cell? ⟨g,k*9+8,none⟩=some (.int .i64 p.min)):=fun V hV=>⟨kept_cell hV c3,kept_cell hV a1,kept_cell hV r0,kept_cell hV r1,kept_cell hV r2,kept_cell hV r3,kept_cell hV r4,kept_cell hV r5,kept_cell hV r6,kept_cell hV r7,kept_cell hV r8⟩
      have HOL:Hid (I64 p.leader):=leader_i64 hnum.1
      have HOE:Hid (I64 p.epoch):=by have hr:=hnum.1.epoch;show I64 _;unfold I64;omega
      have HOV:Hid (I64 p.ver):=by have hr:=hnum.1.ver;show I64 _;unfold I64;omega
      have hw1:IntKind.i64.wrap (ra - 1)=(k:Int):=by rw [show ra - 1=(k:Int) by omega];exact IntWalk.i64_in _ ⟨by omega,by omega⟩
      have hkl':(k:Int)<(I.parts.length:Int):=by omega
      have hk0:(0:Int)≤(k:Int):=by omega
      have HKK:=hid hk
      clear hk hrr hpm hnum hp
      go_wp2_with fail
      go_quiet (fail)
      go_wp2_with fail
      refine at_world (F:=Code.wp _ _ _ _) (fun V=>Hid (Below wr.heap.size wr V)) (hid (below_drewN (Below.refl _ _) _)) ?_
      intro V HV
      have hglt:g<wr.heap.size:=HW.out.lt (.inr (.inr (.inr (.inl rfl))))
      have hqw:q<wr.heap.size:=HW.out.lt (.inl rfl)
      have hsV:=HV.out.size
      have HFV:Hid (FitC w x ⟨rk,ra,rb,rc,rd,rn,rt,rl⟩ la lc b0 rc rd V):=HFC.out.under HV.out
      have nx:¬ x=V.heap.size:=by have:=HFC.out.2.2.2.1;omega
      have nq:¬ q=V.heap.size:=by omega
      have ng:¬ g=V.heap.size:=by omega
      have nx2:¬ V.heap.size=x:=fun e=>nx e.symm
      have nq2:¬ V.heap.size=q:=fun e=>nq e.symm
      have ng2:¬ V.heap.size=g:=fun e=>ng e.symm
      clear a0 a1 a2 a3 a4 a5 a6 a7 z0 z1 z2 z3 z4 z5 z6 z7 fz c3 d1 r0 r1 r2 r3 r4 r5 r6 r7 r8 hsV hglt hqw HFC
      obtain ⟨q3,b1,r0,r1,r2,r3,r4,r5,r6,r7,r8⟩:=HM.out V HV.out
      clear HM
      have HBX3:Hid (Below V.heap.size V (V.alloc (.cells (PP p x1 y1 x2 y2 x3 y3 x4 y4) 54))):=(Below.refl _ _).alloc (Nat.le_refl _) _
      have HNX3:Hid ((V.alloc (.cells (PP p x1 y1 x2 y2 x3 y3 x4 y4) 54)).heap[V.heap.size]?=some (.cells (PP p x1 y1 x2 y2 x3 y3 x4 y4) 54)):=heap_alloc_new _ _
      go_cut [6] from 90 to 99 (fun s6 V2=>s6=.pointer (some ⟨V.heap.size,0,none⟩)∧Hid (Below V.heap.size V V2∧V2.heap[V.heap.size]?=some (.cells (PP p x1 y1 x2 y2 x3 y3 x4 y4) 54)))
      case first =>
       go_region_held3 (fun U=>U.cell? ⟨q,3,none⟩=some (.slice (some ⟨g,0,none⟩) I.parts.length cap)∧U.cell? ⟨x,1,none⟩=some (.int .i64 ra)∧U.cell? ⟨g,k*9,none⟩=some (.int .i64 p.id)∧U.cell? ⟨g,k*9+1,none⟩=some (.int .i64 p.leader)∧U.cell? ⟨g,k*9+2,none⟩=some (.int .i64 p.epoch)∧U.cell? ⟨g,k*9+3,none⟩=some (.int .i64 p.ver)∧U.cell? ⟨g,k*9+4,none⟩=some (.slice x1 p.isr.length y1)∧U.cell? ⟨g,k*9+5,none⟩=some (.slice x2 p.reps.length y2)∧U.cell? ⟨g,k*9+6,none⟩=some (.slice x3 p.add.length y3)∧U.cell? ⟨g,k*9+7,none⟩=some (.slice x4 p.rem.length y4)∧U.cell? ⟨g,k*9+8,none⟩=some (.int .i64 p.min)) (go_keep) (fail)
       all_goals
        go_wp2_with fail
        go_meet
        case rel=>exact ⟨rfl,by first | exact ⟨HBX3.out.drew,HNX3.out⟩ | exact ⟨HBX3.out,HNX3.out⟩ | exact ⟨below_drewN HBX3.out _,HNX3.out⟩⟩
      case rest =>
       obtain ⟨rfl,HY⟩:=hcut
       clear q3 b1 r0 r1 r2 r3 r4 r5 r6 r7 r8 HBX3 HNX3
       have HFC:Hid (FitC w x ⟨rk,ra,rb,rc,rd,rn,rt,rl⟩ la lc b0 rc rd wc):=HFV.out.under HY.out.1
       have p1:=cell_blk HY.out.2 1 _ rfl
       have p2:=cell_blk HY.out.2 2 _ rfl
       have p3:=cell_blk HY.out.2 3 _ rfl
       obtain ⟨_,hbx,_,hbs,hbz⟩:=id HFC.out
       simp only at hbx
       obtain ⟨a0,a1,a2,a3,a4,a5,a6,a7⟩:=cells8 hbx
       obtain ⟨z0,z1,z2,z3,z4,z5,z6,z7⟩:=cells8 hbz
       have fx:=fun j=>frz_blk hbx j
       have fz:=fun j=>frz_blk hbz j
       clear hbx hbz HFV
       generalize V.heap.size=y at *
       go_upto_region 13 with fail
       clear a0 a1 a2 a3 a4 a5 a6 a7 z0 z1 z2 z3 z4 z5 z6 z7 fz
       refine at_world (F:=Code.wp _ _ _ _) (fun V=>Hid (FitC w x ⟨rk,ra,rb,rc,rd,rn,rt,rl⟩ la lc p.leader p.epoch p.ver V)) (hid (by first | exact ((HFC.out.set2 _ HOL.out).set3 _ HOE.out).set4 _ HOV.out | (repeat (first | exact HFC.out | apply FitC.drewN | apply FitC.drew)))) ?_
       intro V HV
       obtain ⟨⟨o1,o2,o3⟩,hbx,hbw,hbs,hbz⟩:=id HV.out
       simp only at hbx
       obtain ⟨a0,a1,a2,a3,a4,a5,a6,a7⟩:=cells8 hbx
       obtain ⟨z0,z1,z2,z3,z4,z5,z6,z7⟩:=cells8 hbz
       have fz:=fun j=>frz_blk hbz j
       have HBZ:=hid hbz
       have HBW:=hid hbw
       have HO:=hid (And.intro o1 (And.intro o2 o3))
       clear hbx hbz hbw o1 o2 o3 HV
       go_wp2_with fail
       have HP:=puts_all [.int .i64 rk,.int .i64 ra,.int .i64 p.leader,.int .i64 p.epoch,.int .i64 p.ver,.string rn,.string rt,.slice la rl.length lc] V (x+1) 0
       have hz8:=HP.box8 HBZ.out rfl
       have hbl:=HP.below (HBW.out) (by omega)
       clear a0 a1 a2 a3 a4 a5 a6 a7 z0 z1 z2 z3 z4 z5 z6 z7 fz
       refine at_world (F:=bodyPost _ _ _ _ _) (fun N=>Hid (N.heap[x+1]?=some (.cells (RV rk ra p.leader p.epoch p.ver rn rt la rl.length lc) 34)∧Below x w N)) ⟨hz8,hbl⟩ ?_
       intro N HN
       obtain ⟨r0,r1,r2,r3,r4,r5,r6,r7⟩:=cells8 HN.out.1
       exact bodyPost_ret (v:=.agg (RV rk ra p.leader p.epoch p.ver rn rt la rl.length lc)) (by simp [results,Tryz.results11,go_sem,r0,r1,r2,r3,r4,r5,r6,r7]) rfl ⟨⟨p.leader,p.epoch,p.ver,HO.out.1,HO.out.2.1,HO.out.2.2,rfl⟩,by rw [← HX.out];exact HN.out.2⟩
     ·go_wp2_with fail
      go_quiet (fail)
      go_upto_region 13 with fail
      clear a0 a1 a2 a3 a4 a5 a6 a7 z0 z1 z2 z3 z4 z5 z6 z7 fz
      refine at_world (F:=Code.wp _ _ _ _) (fun V=>Hid (FitC w x ⟨rk,ra,rb,rc,rd,rn,rt,rl⟩ la lc b0 rc rd V)) (hid (by first | exact ((HFC.out.set2 _ HOL.out).set3 _ HOE.out).set4 _ HOV.out | (repeat (first | exact HFC.out | apply FitC.drewN | apply FitC.drew)))) ?_
      intro V HV
      obtain ⟨⟨o1,o2,o3⟩,hbx,hbw,hbs,hbz⟩:=id HV.out
      simp only at hbx
      obtain ⟨a0,a1,a2,a3,a4,a5,a6,a7⟩:=cells8 hbx
      obtain ⟨z0,z1,z2,z3,z4,z5,z6,z7⟩:=cells8 hbz
      have fz:=fun j=>frz_blk hbz j
      have HBZ:=hid hbz
      have HBW:=hid hbw
      have HO:=hid (And.intro o1 (And.intro o2 o3))
      clear hbx hbz hbw o1 o2 o3 HV
      go_wp2_with fail
      have HP:=puts_all [.int .i64 rk,.int .i64 ra,.int .i64 b0,.int .i64 rc,.int .i64 rd,.string rn,.string rt,.slice la rl.length lc] V (x+1) 0
      have hz8:=HP.box8 HBZ.out rfl
      have hbl:=HP.below (HBW.out) (by omega)
      clear a0 a1 a2 a3 a4 a5 a6 a7 z0 z1 z2 z3 z4 z5 z6 z7 fz
      refine at_world (F:=bodyPost _ _ _ _ _) (fun N=>Hid (N.heap[x+1]?=some (.cells (RV rk ra b0 rc rd rn rt la rl.length lc) 34)∧Below x w N)) ⟨hz8,hbl⟩ ?_
      intro N HN
      obtain ⟨r0,r1,r2,r3,r4,r5,r6,r7⟩:=cells8 HN.out.1
      exact bodyPost_ret (v:=.agg (RV rk ra b0 rc rd rn rt la rl.length lc)) (by simp [results,Tryz.results11,go_sem,r0,r1,r2,r3,r4,r5,r6,r7]) rfl ⟨⟨b0,rc,rd,HO.out.1,HO.out.2.1,HO.out.2.2,rfl⟩,by rw [← HX.out];exact HN.out.2⟩
    ·have hd:decide (1≤ra)=false:=by simpa using h6
     go_wp2_with fail
     go_quiet (fail)
     go_upto_region 13 with fail
     clear a0 a1 a2 a3 a4 a5 a6 a7 z0 z1 z2 z3 z4 z5 z6 z7 fz
     refine at_world (F:=Code.wp _ _ _ _) (fun V=>Hid (FitC w x ⟨rk,ra,rb,rc,rd,rn,rt,rl⟩ la lc b0 rc rd V)) (hid (by first | exact ((HFC.out.set2 _ HOL.out).set3 _ HOE.out).set4 _ HOV.out | (repeat (first | exact HFC.out | apply FitC.drewN | apply FitC.drew)))) ?_
     intro V HV
     obtain ⟨⟨o1,o2,o3⟩,hbx,hbw,hbs,hbz⟩:=id HV.out
     simp only at hbx
     obtain ⟨a0,a1,a2,a3,a4,a5,a6,a7⟩:=cells8 hbx
     obtain ⟨z0,z1,z2,z3,z4,z5,z6,z7⟩:=cells8 hbz
     have fz:=fun j=>frz_blk hbz j
     have HBZ:=hid hbz
     have HBW:=hid hbw
     have HO:=hid (And.intro o1 (And.intro o2 o3))
     clear hbx hbz hbw o1 o2 o3 HV
     go_wp2_with fail
     have HP:=puts_all [.int .i64 rk,.int .i64 ra,.int .i64 b0,.int .i64 rc,.int .i64 rd,.string rn,.string rt,.slice la rl.length lc] V (x+1) 0
     have hz8:=HP.box8 HBZ.out rfl
     have hbl:=HP.below (HBW.out) (by omega)
     clear a0 a1 a2 a3 a4 a5 a6 a7 z0 z1 z2 z3 z4 z5 z6 z7 fz
     refine at_world (F:=bodyPost _ _ _ _ _) (fun N=>Hid (N.heap[x+1]?=some (.cells (RV rk ra b0 rc rd rn rt la rl.length lc) 34)∧Below x w N)) ⟨hz8,hbl⟩ ?_
     intro N HN
     obtain ⟨r0,r1,r2,r3,r4,r5,r6,r7⟩:=cells8 HN.out.1
     exact bodyPost_ret (v:=.agg (RV rk ra b0 rc rd rn rt la rl.length lc)) (by simp [results,Tryz.results11,go_sem,r0,r1,r2,r3,r4,r5,r6,r7]) rfl ⟨⟨b0,rc,rd,HO.out.1,HO.out.2.1,HO.out.2.2,rfl⟩,by rw [← HX.out];exact HN.out.2⟩
   ·have k5:(rk == 5)=false:=by simp [h5]
    clear h5
    go_wp2_with fail
    go_quiet (fail)
    go_upto_region 13 with fail
    clear a0 a1 a2 a3 a4 a5 a6 a7 z0 z1 z2 z3 z4 z5 z6 z7 fz
    refine at_world (F:=Code.wp _ _ _ _) (fun V=>Hid (FitC w x ⟨rk,ra,rb,rc,rd,rn,rt,rl⟩ la lc b0 rc rd V)) (hid (by first | exact ((HFC.out.set2 _ HOL.out).set3 _ HOE.out).set4 _ HOV.out | (repeat (first | exact HFC.out | apply FitC.drewN | apply FitC.drew)))) ?_
    intro V HV
    obtain ⟨⟨o1,o2,o3⟩,hbx,hbw,hbs,hbz⟩:=id HV.out
    simp only at hbx
    obtain ⟨a0,a1,a2,a3,a4,a5,a6,a7⟩:=cells8 hbx
    obtain ⟨z0,z1,z2,z3,z4,z5,z6,z7⟩:=cells8 hbz
    have fz:=fun j=>frz_blk hbz j
    have HBZ:=hid hbz
    have HBW:=hid hbw
    have HO:=hid (And.intro o1 (And.intro o2 o3))
    clear hbx hbz hbw o1 o2 o3 HV
    go_wp2_with fail
    have HP:=puts_all [.int .i64 rk,.int .i64 ra,.int .i64 b0,.int .i64 rc,.int .i64 rd,.string rn,.string rt,.slice la rl.length lc] V (x+1) 0
    have hz8:=HP.box8 HBZ.out rfl
    have hbl:=HP.below (HBW.out) (by omega)
    clear a0 a1 a2 a3 a4 a5 a6 a7 z0 z1 z2 z3 z4 z5 z6 z7 fz
    refine at_world (F:=bodyPost _ _ _ _ _) (fun N=>Hid (N.heap[x+1]?=some (.cells (RV rk ra b0 rc rd rn rt la rl.length lc) 34)∧Below x w N)) ⟨hz8,hbl⟩ ?_
    intro N HN
    obtain ⟨r0,r1,r2,r3,r4,r5,r6,r7⟩:=cells8 HN.out.1
    exact bodyPost_ret (v:=.agg (RV rk ra b0 rc rd rn rt la rl.length lc)) (by simp [results,Tryz.results11,go_sem,r0,r1,r2,r3,r4,r5,r6,r7]) rfl ⟨⟨b0,rc,rd,HO.out.1,HO.out.2.1,HO.out.2.2,rfl⟩,by rw [← HX.out];exact HN.out.2⟩
end Go.Proofs.YtcffomhcmilcpaaGreat
