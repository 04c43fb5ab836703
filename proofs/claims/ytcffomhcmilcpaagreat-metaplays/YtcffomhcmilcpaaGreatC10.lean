/- A name;a topic's place. -/
import Derived.Test.YtcffomhcmilcpaaGreatC9
import Derived.Test.YtcffomhcmilcpaaGreatC4
import Derived.Shelf.Pu.Clone
import Derived.Test.YtcffomhcmilcpaaGreatC7
set_option maxRecDepth 100000
set_option maxHeartbeats 20000000
set_option linter.unusedVariables false
set_option linter.unusedSimpArgs false
namespace Go.Proofs.YtcffomhcmilcpaaGreat
open Go.RowKit Go.Maps
def cloneRen:Go.Shelf.Ren:=⟨fun | 25=>160 | n=>n,fun | 37=>46 | 47=>185 | n=>n,fun | n=>n⟩
theorem cloneLaid:Go.Proofs.LaysPu.n25 Tryz.prog cloneRen:={
 mixed:=by kernel_rfl
 f25:=Tryz.func160.trans (congrArg some (by kernel_rfl))
 t0:=by kernel_rfl
 a0:=fun w=>by kernel_rfl
 z0:=fun w=>by kernel_rfl
 v0:=fun w=>by kernel_rfl
 i0:=by kernel_rfl
 t3:=Tryz.underlying3
 a3:=fun w=>by kernel_rfl
 z3:=fun w=>by kernel_rfl
 v3:=fun w=>by kernel_rfl
 i3:=by kernel_rfl
 t4:=Tryz.underlying4
 a4:=fun w=>by kernel_rfl
 z4:=fun w=>by kernel_rfl
 v4:=fun w=>by kernel_rfl
 i4:=by kernel_rfl
 t5:=Tryz.underlying5
 a5:=fun w=>by kernel_rfl
 z5:=fun w=>by kernel_rfl
 v5:=fun w=>by kernel_rfl
 i5:=by kernel_rfl
 t9:=Tryz.underlying9
 a9:=fun w=>by kernel_rfl
 z9:=fun w=>by kernel_rfl
 v9:=fun w=>by kernel_rfl
 i9:=by kernel_rfl
 t37:=Tryz.underlying46
 a37:=fun w=>by kernel_rfl
 z37:=fun w=>by kernel_rfl
 v37:=fun w=>by kernel_rfl
 i37:=by kernel_rfl
 t47:=by kernel_rfl
 a47:=fun w=>by kernel_rfl
 z47:=fun w=>by kernel_rfl
 v47:=fun w=>by kernel_rfl
 i47:=by kernel_rfl }
theorem clone160 (s:ByteArray) (w:World) (h:s.size≤281474976710656):Calls Tryz.prog 160 #[.string s] w fun e w'=>e=.returned (.string s)∧Below w.heap.size w w' :=
 AnyPu.stringslite_Clone cloneLaid s w h
theorem sclone_any (s:ByteArray) (w:World) (h:s.size≤281474976710656):Calls Tryz.prog 119 #[.string s] w fun e w'=>e=.returned (.string s)∧Below w.heap.size w w':=by
 have H57:=hid (clone160 s w h)
 go_enter Tryz.func119,Tryz.ntmps119
 go_wp2_with (go_at_call 160;refine H57.out.mono ?_;rintro e w1 ⟨rfl,hb1⟩)
 go_ret
 exact ⟨rfl,hb1⟩
theorem ofName_any (c:UInt8) (w:World):Calls Tryz.prog 135 #[.int .u8 (c.toNat:Int)] w fun e w'=>e=.returned (.bool (isOfB c))∧w=w':=by
 have hc:c.toNat<256:=UInt8.toNat_lt c
 have HF:Hid (isOfB c=((decide (97≤c.toNat) && decide (c.toNat≤122)) || (decide (48≤c.toNat) && decide (c.toNat≤57)) || decide (c.toNat=45))):=by
  show _=_
  unfold isOfB
  congr 1
  rw [Bool.eq_iff_iff]
  simp only [beq_iff_eq,decide_eq_true_eq]
  constructor
  ·rintro rfl;rfl
  ·intro h;exact UInt8.toNat_inj.1 h
 generalize isOfB c=B at *
 generalize c.toNat=n at *
 have HF2:=HF
 by_cases h1:97≤n
 ·by_cases h2:n≤122
  ·have h1':(97:Int)≤(n:Int):=by omega
   have h2':(n:Int)≤122:=by omega
   go_enter Tryz.func135,Tryz.ntmps135
   go_wp2_with fail
   go_ret
   exact ⟨ret_bool (by rw [HF2.out];simp [h1,h2]),rfl⟩
  ·have h1':(97:Int)≤(n:Int):=by omega
   have h2':¬ (n:Int)≤122:=by omega
   have h3':(48:Int)≤(n:Int):=by omega
   have h4':¬ (n:Int)≤57:=by omega
   have h5':¬ (n:Int)=45:=by omega
   go_enter Tryz.func135,Tryz.ntmps135
   go_wp2_with fail
   go_ret
   exact ⟨ret_bool (by rw [HF2.out,Bool.eq_iff_iff];simp only [Bool.or_eq_true,Bool.and_eq_true,decide_eq_true_eq,Bool.false_eq_true,false_iff,true_iff,beq_iff_eq];try omega),rfl⟩
 ·by_cases h3:48≤n
  ·by_cases h4:n≤57
   ·have h1':¬ (97:Int)≤(n:Int):=by omega
    have h3':(48:Int)≤(n:Int):=by omega
    have h4':(n:Int)≤57:=by omega
    go_enter Tryz.func135,Tryz.ntmps135
    go_wp2_with fail
    go_ret
    exact ⟨ret_bool (by rw [HF2.out,Bool.eq_iff_iff];simp only [Bool.or_eq_true,Bool.and_eq_true,decide_eq_true_eq,Bool.false_eq_true,false_iff,true_iff,beq_iff_eq];try omega),rfl⟩
   ·have h1':¬ (97:Int)≤(n:Int):=by omega
    have h3':(48:Int)≤(n:Int):=by omega
    have h4':¬ (n:Int)≤57:=by omega
    have h5':¬ (n:Int)=45:=by omega
    go_enter Tryz.func135,Tryz.ntmps135
    go_wp2_with fail
    go_ret
    exact ⟨ret_bool (by rw [HF2.out,Bool.eq_iff_iff];simp only [Bool.or_eq_true,Bool.and_eq_true,decide_eq_true_eq,Bool.false_eq_true,false_iff,true_iff,beq_iff_eq];try omega),rfl⟩
  ·have h1':¬ (97:Int)≤(n:Int):=by omega
   have h3':¬ (48:Int)≤(n:Int):=by omega
   by_cases h5:n=45
   ·subst h5
    go_enter Tryz.func135,Tryz.ntmps135
    go_wp2_with fail
    go_ret
    exact ⟨ret_bool (by rw [HF2.out];simp),rfl⟩
   ·have h5':¬ (n:Int)=45:=by omega
    go_enter Tryz.func135,Tryz.ntmps135
    go_wp2_with fail
    go_ret
    exact ⟨ret_bool (by rw [HF2.out,Bool.eq_iff_iff];simp only [Bool.or_eq_true,Bool.and_eq_true,decide_eq_true_eq,Bool.false_eq_true,false_iff,true_iff,beq_iff_eq];try omega),rfl⟩
theorem place1_any {w:World} (t:Tp) (s:ByteArray) (r:Nat) (hr:w.heap[r]?=some (.cells #[.string s] 9)):Calls Tryz.prog 114 #[.agg #[.string t.name,.int .i64 t.first,.int .i64 t.count],.pointer (some ⟨r,0,none⟩)] w fun e w'=>e=.returned (.bool (sameN t.name s))∧Below w.heap.size w w':=by
 have hlt:r<w.heap.size:=(Array.getElem?_eq_some_iff.1 hr).1
 have hne:¬ r=w.heap.size:=by omega
 have c0:=cell_blk hr 0 _ rfl
 have HF:Hid (sameN t.name s=(t.name.toList == s.toList)):=rfl
 generalize sameN t.name s=B at *
 go_enter Tryz.func114,Tryz.ntmps114
 go_wp2_with fail
 go_ret
 exact ⟨ret_bool (by rw [HF.out]),(Below.refl _ _).alloc (Nat.le_refl _) _⟩
theorem ImC.top {w:World} {L:Nat→Prop} {q b:Nat} {vp ve:Value} {g n cap:Nat} {ps:List (Value × Pt)} {I:Im} (h:ImC w L q b (.slice (some ⟨g,0,none⟩) n cap) vp ve ps I) (i:Nat) (x:Tp) (hx:I.tops[i]?=some x):w.cell? ⟨g,i*3,none⟩=some (.string x.name)∧w.cell? ⟨g,i*3+1,none⟩=some (.int .i64 x.first)∧w.cell? ⟨g,i*3+2,none⟩=some (.int .i64 x.count):=by
 have hc:=fun j u hu=>World.ownsRow.cells h.tops (g:=g) rfl j u hu
 obtain ⟨h0,h1,h2⟩:=flatT_get I.tops i x hx
 have k0:=hc _ _ h0
 have k1:=hc _ _ h1
 have k2:=hc _ _ h2
 rw [add_at,Nat.zero_add] at k0 k1 k2
 exact ⟨k0,k1,k2⟩
theorem indexFunc_any {w:World} {L:Nat→Prop} {q b:Nat} {vt vp ve:Value} {ps:List (Value × Pt)} {I:Im} (h:ImC w L q b vt vp ve ps I) (s:ByteArray) (r:Nat) (hr:w.heap[r]?=some (.cells #[.string s] 9)):Calls Tryz.prog 113 #[vt,.func (.func 114) #[] #[.pointer (some ⟨r,0,none⟩)]] w fun e w'=>(∃ i:Int,e=.returned (.int .i64 i)∧(hasT I.tops s=true→0≤i∧∃ t,I.tops[i.toNat]?=some t∧sameN t.name s=true)∧(hasT I.tops s=false→i=-1)∧i≤16)∧Below w.heap.size w w':=by
 have HI:=hid h
 have hfew:I.tops.length≤16:=h.ok.topsFew
 obtain ⟨oa,cap,rfl,hcap,hcm,hnn,hat⟩:=row_shape h.tops
 have HR:=hid hr
 clear h hr hnn hcm hcap
 go_enter Tryz.func113,Tryz.ntmps113
 go_wp2_with fail
 go_loopg [8] I.tops.length (fun kx s8 wr=>∃ k:Nat,k≤I.tops.length∧I.tops.length - k≤kx∧s8=.int .i64 (k:Int)∧Hid ((I.tops.take k).any (fun t=>sameN t.name s)=false∧Below w.heap.size w wr))
 case atStart=>exact ⟨0,Nat.zero_le _,by omega,rfl,by simp,Below.refl _ _⟩
 case round =>
  obtain ⟨k,hk,hkx,rfl,HK⟩:=hrel
  by_cases hlt:k<I.tops.length
  ·obtain ⟨g,rfl⟩:=hat (by omega)
   have hx:I.tops[k]?=some I.tops[k]:=List.getElem?_eq_getElem hlt
   have HX:=hid hx
   obtain ⟨k0,k1,k2⟩:=(HI.out.under HK.out.2).top k _ hx
   have H114:=hid (place1_any I.tops[k] s r ((HK.out.2.block r (Array.getElem?_eq_some_iff.1 HR.out).1).trans HR.out))
   have HT:Hid ((I.tops.take (k+1)).any (fun t=>sameN t.name s)=((I.tops.take k).any (fun t=>sameN t.name s) || sameN I.tops[k].name s)):=by
    show _=_
    rw [List.take_succ_eq_append_getElem hlt,List.any_append]
    simp
   have HA:Hid (sameN I.tops[k].name s=true→hasT I.tops s=true):=fun h=>by
    unfold hasT
    rw [List.any_eq_true]
    exact ⟨I.tops[k],by simp,h⟩
   have hlt':(k:Int)<(I.tops.length:Int):=by omega
   generalize I.tops[k]=t at *
   clear hx
   cases hB:sameN t.name s with
   | true =>
    rw [hB] at H114
    have HB:=hid hB
    go_wp2_with fail
    refine H114.out.mono ?_
    rintro e w1 ⟨rfl,hb1⟩
    go_wp2_with fail
    go_ret
    exact ⟨⟨_,rfl,fun _=>⟨by omega,t,by simpa using HX.out,HB.out⟩,fun hf=>(by rw [HA.out HB.out] at hf;cases hf),by omega⟩,HK.out.2.trans (hb1.mono HK.out.2.size)⟩
   | false =>
    rw [hB] at H114 HT
    go_wp2_with fail
    refine H114.out.mono ?_
    rintro e w1 ⟨rfl,hb1⟩
    have HK2:Hid ((I.tops.take (k+1)).any (fun t=>sameN t.name s)=false∧Below w.heap.size w w1):=⟨by rw [HT.out,HK.out.1];rfl,HK.out.2.trans (hb1.mono HK.out.2.size)⟩
    clear hb1 HT HK H114 k0 k1 k2
    go_wp2_with fail
    go_roundg (I.tops.length - (k+1))
    case measure=>omega
    case rel=>exact ⟨k+1,by omega,Nat.le_refl _,by go_num,HK2.out⟩
  ·have hlt':¬ (k:Int)<(I.tops.length:Int):=by omega
   go_wp2_with fail
   go_ret
   have hN:=HK.out.1
   rw [List.take_of_length_le (by omega)] at hN
   have hN':hasT I.tops s=false:=hN
   exact ⟨⟨_,rfl,fun ht=>(by rw [hN'] at ht;cases ht),fun _=>rfl,by omega⟩,HK.out.2⟩
theorem place_any {w:World} {L:Nat→Prop} {q b:Nat} {vt vp ve:Value} {ps:List (Value × Pt)} {I:Im} (h:ImC w L q b vt vp ve ps I) (s:ByteArray):Calls Tryz.prog 65 #[.pointer (some ⟨q,0,none⟩),.string s] w fun e w'=>(∃ i:Int,e=.returned (.int .i64 i)∧(hasT I.tops s=true→0≤i∧∃ t,I.tops[i.toNat]?=some t∧sameN t.name s=true)∧(hasT I.tops s=false→i=-1)∧i≤16)∧Below w.heap.size w w':=by
 have hb0:Below w.heap.size w (w.alloc (.cells #[.string s] 9)):=(Below.refl _ _).alloc (Nat.le_refl _) _
 have H113:=hid (indexFunc_any (h.under hb0) s w.heap.size (heap_alloc_new _ _))
 have c2:=h.c2
 have hq:=h.lt (.inl rfl)
 have hne:¬ q=w.heap.size:=by omega
 have HB:=hid hb0
 obtain ⟨oa,cap,rfl,_⟩:=row_shape h.tops
 clear h hb0
 go_enter Tryz.func65,Tryz.ntmps65
 go_wp2_with (go_at_call 113;refine H113.out.mono ?_;rintro e w1 ⟨⟨i,rfl,h1⟩,hb1⟩;have H1:=hid h1;clear h1)
 go_ret
 exact ⟨⟨i,rfl,H1.out⟩,HB.out.trans (hb1.mono HB.out.size)⟩
theorem take_at (s:ByteArray) (k:Nat) (h:k<s.size):s.data.toList.take (k+1)=s.data.toList.take k++[s[k]]:=by
 rw [List.take_succ_eq_append_getElem (by simpa using h)];rfl
theorem isName_any (s:ByteArray) (w:World) (hs:s.size≤maxLen):Calls Tryz.prog 93 #[.string s] w fun e w'=>e=.returned (.bool (nameB s))∧w=w':=by
 unfold maxLen at hs
 have HU:=hid (fun w=>upTo_any (s.size:Int) 32 w (by unfold I64;omega) (by unfold I64;omega))
 have H135:Hid (∀ c W,Calls Tryz.prog 135 #[.int .u8 ((c:UInt8).toNat:Int)] W fun e w'=>e=.returned (.bool (isOfB c))∧W=w'):=fun c W=>ofName_any c W
 have HF:Hid (nameB s=(upB s.size 32 && s.data.toList.all isOfB)):=rfl
 generalize nameB s=B at *
 cases hb:upB (s.size:Int) 32 with
 | false =>
  rw [hb] at HU HF
  go_enter Tryz.func93,Tryz.ntmps93
  go_wp2_with fail
  refine (HU.out _).mono ?_
  rintro e w1 ⟨rfl,rfl⟩
  go_wp2_with fail
  go_ret
  exact ⟨ret_bool (by rw [HF.out];rfl),rfl⟩
 | true =>
  rw [hb] at HU HF
  rw [Bool.true_and] at HF
  go_enter Tryz.func93,Tryz.ntmps93
  go_wp2_with fail
  refine (HU.out _).mono ?_
  rintro e w1 ⟨rfl,rfl⟩
  go_wp2_with fail
  go_loopg [10] s.size (fun kx s10 wr=>∃ k:Nat,k≤s.size∧s.size - k≤kx∧s10=.int .i64 (k:Int)∧Hid ((s.data.toList.take k).all isOfB=true)∧wr=w)
  case atStart=>exact ⟨0,Nat.zero_le _,by omega,rfl,by show _=_;simp,rfl⟩
  case round =>
   obtain ⟨k,hk,hkx,rfl,HK,rfl⟩:=hrel
   by_cases hlt:k<s.size
   ·have hlt':(k:Int)<(s.size:Int):=by omega
    have HT:Hid ((s.data.toList.take (k+1)).all isOfB=((s.data.toList.take k).all isOfB && isOfB s[k])):=by
     show _=_
     rw [take_at s k hlt,List.all_append]
     simp
    have HM:Hid (isOfB s[k]=false→s.data.toList.all isOfB=false):=fun h=>by
     rw [List.all_eq_false]
     exact ⟨s[k],by simp [ByteArray.getElem_eq_getElem_data],by simp [h]⟩
    cases hc:isOfB s[k] with
    | false =>
     have HM2:=hid (HM.out hc)
     have HX:=hid (H135.out s[k])
     rw [hc] at HX
     clear HM HT hc
     go_wp2_with fail
     refine (HX.out _).mono ?_
     rintro e w1 ⟨rfl,rfl⟩
     go_wp2_with fail
     go_ret
     exact ⟨ret_bool (by rw [HF.out,HM2.out]),rfl⟩
    | true =>
     have HX:=hid (H135.out s[k])
     rw [hc] at HX HT
     have HK2:Hid ((s.data.toList.take (k+1)).all isOfB=true):=by show _=_;rw [HT.out,HK.out];rfl
     clear HM HT hc
     go_wp2_with fail
     refine (HX.out _).mono ?_
     rintro e w1 ⟨rfl,rfl⟩
     go_wp2_with fail
     go_roundg (s.size - (k+1))
     case measure=>omega
     case rel=>exact ⟨k+1,by omega,Nat.le_refl _,by go_num,HK2.out,rfl⟩
   ·have hlt':¬ (k:Int)<(s.size:Int):=by omega
    go_wp2_with fail
    go_ret
    have hn:=HK.out
    rw [List.take_of_length_le (by simp;omega)] at hn
    exact ⟨ret_bool (by rw [HF.out,hn]),rfl⟩
@[reducible] def p9x0:Oper:={ dst:=some 72,op:=Op.move (Operand.tmp 0),type:=25,pos:= "kinds.go:113",after:=#[],guard:=none }
@[reducible] def p9x1:Oper:={ dst:=some 73,op:=Op.move (Operand.tmp 0),type:=25,pos:= "kinds.go:113",after:=#[],guard:=none }
@[reducible] def p9x2:Oper:={ dst:=some 74,op:=Op.nilCheck (Operand.tmp 73),type:=0,pos:= "kinds.go:113",after:=#[{ on:=1,ground:=Ground.data }],guard:=none }
@[reducible] def p9x3:Oper:={ dst:=some 75,op:=Op.fieldAddr 70 (Operand.tmp 74) 2,type:=0,pos:= "kinds.go:113",after:=#[{ on:=2,ground:=Ground.data }],guard:=none }
@[reducible] def p9x4:Oper:={ dst:=some 76,op:=Op.load 68 (Operand.tmp 75),type:=68,pos:= "kinds.go:113",after:=#[{ on:=3,ground:=Ground.data }],guard:=none }
@[reducible] def p9x5:Oper:={ dst:=some 77,op:=Op.load 96 (Operand.tmp 7),type:=96,pos:= "kinds.go:113",after:=#[],guard:=none }
@[reducible] def p9x6:Oper:={ dst:=some 78,op:=Op.buildSlice 68 1 #[(0,Operand.tmp 77)],type:=68,pos:= "kinds.go:113",after:=#[{ on:=5,ground:=Ground.data }],guard:=none }
@[reducible] def p9x7:Oper:={ dst:=some 79,op:=Op.call ({ callee:=Callee.builtin Builtin.append,args:=#[Operand.tmp 76,Operand.tmp 78],argTypes:=#[68,68] }),type:=68,pos:= "kinds.go:113",after:=#[{ on:=4,ground:=Ground.data },{ on:=6,ground:=Ground.data }],guard:=none }
@[reducible] def p9x8:Oper:={ dst:=some 80,op:=Op.nilCheck (Operand.tmp 72),type:=0,pos:= "kinds.go:113",after:=#[{ on:=0,ground:=Ground.data },{ on:=0,ground:=Ground.phase },{ on:=1,ground:=Ground.phase },{ on:=2,ground:=Ground.phase },{ on:=3,ground:=Ground.phase },{ on:=4,ground:=Ground.phase },{ on:=5,ground:=Ground.phase },{ on:=6,ground:=Ground.phase },{ on:=7,ground:=Ground.phase }],guard:=none }
@[reducible] def p9x9:Oper:={ dst:=some 81,op:=Op.fieldAddr 70 (Operand.tmp 80) 2,type:=0,pos:= "kinds.go:113",after:=#[{ on:=8,ground:=Ground.data },{ on:=0,ground:=Ground.phase },{ on:=1,ground:=Ground.phase },{ on:=2,ground:=Ground.phase },{ on:=3,ground:=Ground.phase },{ on:=4,ground:=Ground.phase },{ on:=5,ground:=Ground.phase },{ on:=6,ground:=Ground.phase },{ on:=7,ground:=Ground.phase }],guard:=none }
@[reducible] def p9x10:Oper:={ dst:=none,op:=Op.store 68 (Operand.tmp 81) (Operand.tmp 79),type:=0,pos:= "kinds.go:113",after:=#[{ on:=9,ground:=Ground.data },{ on:=7,ground:=Ground.data },{ on:=7,ground:=Ground.chain },{ on:=0,ground:=Ground.phase },{ on:=1,ground:=Ground.phase },{ on:=2,ground:=Ground.phase },{ on:=3,ground:=Ground.phase },{ on:=4,ground:=Ground.phase },{ on:=5,ground:=Ground.phase },{ on:=6,ground:=Ground.phase },{ on:=7,ground:=Ground.phase }],guard:=none }
@[reducible] def ps9:Array Oper:=#[p9x0,p9x1,p9x2,p9x3,p9x4,p9x5,p9x6,p9x7,p9x8,p9x9,p9x10]
theorem info96:∃ i,Tryz.prog.info? 96=some i∧i.zero=some (.agg #[.string ByteArray.empty,.int .i64 0,.int .i64 0])∧i.size=3∧i.bytes=32:=⟨_,rfl,rfl,rfl,rfl⟩
theorem region9 {Q:Exit→Act→World→Prop} (a:Act) {W:World} {L:Nat→Prop} {q b:Nat} {oa:Option Addr} {cap:Nat} {vp ve:Value} {ps:List (Value × Pt)} {I:Im} (h:ImC W L q b (.slice oa I.tops.length cap) vp ve ps I) (t:Tp) (xt:Nat) (hxt:W.heap[xt]?=some (.cells #[.string t.name,.int .i64 t.first,.int .i64 t.count] 96)) (hxo:¬ Own q b (.slice oa I.tops.length cap) vp ve xt) (hok:ImOk { I with tops:=I.tops++[t] })
  (h0:a.eval (.tmp 0)=.pointer (some ⟨q,0,none⟩)) (h7:a.eval (.tmp 7)=.pointer (some ⟨xt,0,none⟩)) (hsz:a.tmps.size=111)
  (hQ:∀ (g c:Nat) (W3:World),ImC W3 L q b (.slice (some ⟨g,0,none⟩) (I.tops.length+1) c) vp ve ps { I with tops:=I.tops++[t] }→((Value.slice oa I.tops.length cap).ownBlock=some g∨W.heap.size≤g)→Keeps (Own q b (.slice oa I.tops.length cap) vp ve) W W3→Q .normal (((((((((((a.put (some 72) (.pointer (some ⟨q,0,none⟩))).put (some 73) (.pointer (some ⟨q,0,none⟩))).put (some 74) (.pointer (some ⟨q,0,none⟩))).put (some 75) (.pointer (some ⟨q,2,none⟩))).put (some 76) (.slice oa I.tops.length cap)).put (some 77) (.agg #[.string t.name,.int .i64 t.first,.int .i64 t.count])).put (some 78) (.slice (some ⟨W.heap.size,0,none⟩) 1 1)).put (some 79) (.slice (some ⟨g,0,none⟩) (I.tops.length+1) c)).put (some 80) (.pointer (some ⟨q,0,none⟩))).put (some 81) (.pointer (some ⟨q,2,none⟩))).put none undef) W3) :
  (Code.region 9 ps9 true).wp Tryz.prog Q a W:=by
 obtain ⟨j0,hj0,hz0,hz1,hz2⟩:=info96
 have hfew:=h.ok.topsFew
 have hqlt:q<W.heap.size:=h.lt (.inl rfl)
 have hxlt:xt<W.heap.size:=(Array.getElem?_eq_some_iff.1 hxt).1
 have hbA:Below W.heap.size W ((W.alloc (.cells #[.string t.name,.int .i64 t.first,.int .i64 t.count] 96)).drew):=((Below.refl _ _).alloc (Nat.le_refl _) _).drew
 have HROW:((W.alloc (.cells #[.string t.name,.int .i64 t.first,.int .i64 t.count] 96)).drew).ownsRow 0 96 3 (.slice oa I.tops.length cap) I.tops.length (flatT I.tops):=(h.under hbA).tops
 have HNEW:∀ j u,([.string t.name,.int .i64 t.first,.int .i64 t.count]:List Value)[j]?=some u→((W.alloc (.cells #[.string t.name,.int .i64 t.first,.int .i64 t.count] 96)).drew).cell? ((⟨W.heap.size,0,none⟩:Addr).add j)=some u:=fun j u hu=>by
  rw [add_at,Nat.zero_add]
  refine cell_blk (w:=(W.alloc (.cells #[.string t.name,.int .i64 t.first,.int .i64 t.count] 96)).drew) (heap_alloc_new W (.cells #[.string t.name,.int .i64 t.first,.int .i64 t.count] 96)) j u ?_
  rw [← hu]
  simp
 have HONE:∀ u∈([.string t.name,.int .i64 t.first,.int .i64 t.count]:List Value),u.oneCell'=true:=fun u hu=>by
  simp at hu
  rcases hu with rfl | rfl | rfl <;> rfl
 have HSZ:((W.alloc (.cells #[.string t.name,.int .i64 t.first,.int .i64 t.count] 96)).drew).heap.size=W.heap.size+1:=by simp
 have HG:∀ (w5:World) (g c:Nat),w5.ownsRow 0 96 3 (.slice (some ⟨g,0,none⟩) (I.tops.length+1) c) (I.tops.length+1) (flatT I.tops++[.string t.name,.int .i64 t.first,.int .i64 t.count])→((W.alloc (.cells #[.string t.name,.int .i64 t.first,.int .i64 t.count] 96)).drew).grownBy w5 (Value.slice oa I.tops.length cap).ownBlock→((Value.slice oa I.tops.length cap).ownBlock=some g∨g=W.heap.size+1) →
   w5.heap[q]?=some (.cells #[.int .i64 I.applied,.map (some b),.slice oa I.tops.length cap,vp,ve] 70)∧w5.heap[xt]?=some (.cells #[.string t.name,.int .i64 t.first,.int .i64 t.count] 96)∧ImC (w5.setCell ⟨q,2,none⟩ (.slice (some ⟨g,0,none⟩) (I.tops.length+1) c)) L q b (.slice (some ⟨g,0,none⟩) (I.tops.length+1) c) vp ve ps { I with tops:=I.tops++[t] }∧Keeps (Own q b (.slice oa I.tops.length cap) vp ve) W (w5.setCell ⟨q,2,none⟩ (.slice (some ⟨g,0,none⟩) (I.tops.length+1) c)):=fun w5 g c hown hg hat=>by
  have hs5:=hg.size
  have hblk:∀ k,k<W.heap.size→(Value.slice oa I.tops.length cap).ownBlock≠some k→w5.heap[k]?=W.heap[k]?:=fun k hk hne=>by
   rw [hg.block k (by rw [HSZ];omega) (fun e=>hne e.symm),hbA.block k hk]
  have hqc:=(hblk q hqlt h.ne_q.1).trans h.cells
  have hnew:∀ k,(Value.slice (some ⟨g,0,none⟩) (I.tops.length+1) c).ownBlock=some k→(Value.slice oa I.tops.length cap).ownBlock=some k∨W.heap.size≤k:=fun k hk=>by
   cases hk
   rcases hat with e | e
   ·exact .inl e
   ·exact .inr (by show W.heap.size≤g;omega)
  have hoth:∀ k,k<W.heap.size→k≠q→(Value.slice oa I.tops.length cap).ownBlock≠some k→(w5.setCell ⟨q,2,none⟩ (.slice (some ⟨g,0,none⟩) (I.tops.length+1) c)).heap[k]?=W.heap[k]?:=fun k hk hkq hke=>by
   rw [Below.heap_setCell _ _ _ _ hkq];exact hblk k hk hke
  refine ⟨hqc,(hblk xt hxlt (fun e=>hxo (.inr (.inr (.inl e))))).trans hxt,h.swapT (by simp;omega) hoth (set_box hqc) ?_ hnew hok,⟨hg.os,hg.tape,hg.output,by simp;omega,fun k hk hS=>hoth k hk (fun e=>hS (.inl e)) (fun e=>hS (.inr (.inr (.inl e))))⟩⟩
  have hqv:(Value.slice (some ⟨g,0,none⟩) (I.tops.length+1) c).ownBlock≠some q:=fun e=>by
   rcases hnew q e with e | e
   ·exact h.ne_q.1 e
   ·omega
  have h3:=row_kept hown (w1:=w5.setCell ⟨q,2,none⟩ (.slice (some ⟨g,0,none⟩) (I.tops.length+1) c)) (fun k hk=>Below.heap_setCell _ _ _ _ (fun e=>hqv (by rw [hk,e])))
  rw [List.length_append,flatT_append]
  exact h3
 have HS0:W.drew.heap[q]?=some (.cells #[.int .i64 I.applied,.map (some b),.slice oa I.tops.length cap,vp,ve] 70)∧W.drew.heap[xt]?=some (.cells #[.string t.name,.int .i64 t.first,.int .i64 t.count] 96):=⟨h.cells,hxt⟩
 have HDD:W.drew.alloc (.cells #[.string t.name,.int .i64 t.first,.int .i64 t.count] 96)=(W.alloc (.cells #[.string t.name,.int .i64 t.first,.int .i64 t.count] 96)).drew:=rfl
 have HS1:(W.drew.alloc (.cells #[.string t.name,.int .i64 t.first,.int .i64 t.count] 96)).heap[q]?=some (.cells #[.int .i64 I.applied,.map (some b),.slice oa I.tops.length cap,vp,ve] 70)∧(W.drew.alloc (.cells #[.string t.name,.int .i64 t.first,.int .i64 t.count] 96)).heap[xt]?=some (.cells #[.string t.name,.int .i64 t.first,.int .i64 t.count] 96):=⟨(hbA.block q hqlt).trans h.cells,(hbA.block xt hxlt).trans hxt⟩
 clear hbA h hxt hxo hok
 generalize hFM:flatT I.tops=FM at *
 refine wp_region_noPanic ?_
 refine region_last (fun V=>V.heap[q]?=some (.cells #[.int .i64 I.applied,.map (some b),.slice oa I.tops.length cap,vp,ve] 70)∧V.heap[xt]?=some (.cells #[.string t.name,.int .i64 t.first,.int .i64 t.count] 96)) 10 (by kernel_rfl) ?_
 refine ButLast.take (oi:=p9x0) 0 (.pointer (some ⟨q,0,none⟩)) [9,8] (by rfl) (by kernel_rfl) (by kernel_rfl) (by kernel_rfl) (by kernel_rfl) (by kernel_rfl) (fun c a w h=>h) (yields_move (by rfl) 0 (by rfl) h0) HS0 ?_
 refine ButLast.take (oi:=p9x1) 1 (.pointer (some ⟨q,0,none⟩)) [7,4,3,2] (by rfl) (by kernel_rfl) (by kernel_rfl) (by kernel_rfl) (by kernel_rfl) (by kernel_rfl) (fun c a w h=>h) (yields_move (by rfl) 0 (by rfl) (by simp [put_eval,put_size,hsz,h0,h7])) HS0 ?_
 refine ButLast.take (oi:=p9x2) 2 (.pointer (some ⟨q,0,none⟩)) [7,4,3] (by rfl) (by kernel_rfl) (by kernel_rfl) (by kernel_rfl) (by kernel_rfl) (by kernel_rfl) (fun c a w h=>h) (yields_nil (by rfl) 73 q (by rfl) (by simp [put_eval,put_size,hsz,h0,h7])) HS0 ?_
 refine ButLast.take (oi:=p9x3) 3 (.pointer (some ⟨q,2,none⟩)) [7,4] (by rfl) (by kernel_rfl) (by kernel_rfl) (by kernel_rfl) (by kernel_rfl) (by kernel_rfl) (fun c a w h=>h) (yields_field70_2 (by rfl) 74 q (by rfl) (by simp [put_eval,put_size,hsz,h0,h7])) HS0 ?_
 refine ButLast.take (oi:=p9x4) 4 (.slice oa I.tops.length cap) [7] (by rfl) (by kernel_rfl) (by kernel_rfl) (by kernel_rfl) (by kernel_rfl) (by kernel_rfl) (fun c a w h=>h) (yields_load68 (by rfl) 75 q 2 (by rfl) (by simp [put_eval,put_size,hsz,h0,h7]) _ (fun V hV=>cell_blk hV.1 2 _ rfl)) HS0 ?_
 refine ButLast.take (oi:=p9x5) 5 (.agg #[.string t.name,.int .i64 t.first,.int .i64 t.count]) [7,6] (by rfl) (by kernel_rfl) (by kernel_rfl) (by kernel_rfl) (by kernel_rfl) (by kernel_rfl) (fun c a w h=>h) (yields_load96 (by rfl) 7 xt (by rfl) (by simp [put_eval,put_size,hsz,h0,h7]) _ _ _ (fun V hV=>hV.2)) HS0 ?_
 refine ButLast.one (o:=p9x6) 6 (by kernel_rfl) (by rfl) (fun K hK=>?_)
 refine step_one68 (by rfl) 77 (by rfl) t.name t.first t.count (by simp [put_eval,put_size,hsz,h0,h7]) ?_
 refine hK.out _ _ (fun _=>HS1) ?_
 clear hK K
 rw [HDD]
 refine ButLast.one (o:=p9x7) 7 (by kernel_rfl) (by rfl) (fun K hK=>?_)
 refine step_append_lies _ (by rfl) (.tmp 76) (.tmp 78) 68 (by rfl) 0 96 j0 _ 3 32 Tryz.underlying68 hj0 hz0 hz1 hz2 rfl (by decide) (.slice oa I.tops.length cap) I.tops.length FM (by simp [put_eval,put_size,hsz,h0,h7]) HROW ⟨W.heap.size,0,none⟩ 1 1 [.string t.name,.int .i64 t.first,.int .i64 t.count] (by simp [put_eval,put_size,hsz,h0,h7]) rfl HNEW HONE (by decide) (by unfold maxLen;omega) (by omega) (Nat.zero_le _) (W.heap.size+1) HSZ ?_
 intro g c w5 hown5 hg5 hat5 hlt5
 obtain ⟨f1,f2,f0,f3⟩:=HG w5 g c hown5 hg5 hat5
 have HS5:w5.heap[q]?=some (.cells #[.int .i64 I.applied,.map (some b),.slice oa I.tops.length cap,vp,ve] 70)∧w5.heap[xt]?=some (.cells #[.string t.name,.int .i64 t.first,.int .i64 t.count] 96):=⟨f1,f2⟩
 refine hK.out _ _ (fun _=>HS5) ?_
 clear hK K
 refine ButLast.take (oi:=p9x8) 8 (.pointer (some ⟨q,0,none⟩)) [9] (by rfl) (by kernel_rfl) (by kernel_rfl) (by kernel_rfl) (by kernel_rfl) (by kernel_rfl) (fun c a w h=>h) (yields_nil (by rfl) 72 q (by rfl) (by simp [put_eval,put_size,hsz,h0,h7])) HS5 ?_
 refine ButLast.take (oi:=p9x9) 9 (.pointer (some ⟨q,2,none⟩)) [] (by rfl) (by kernel_rfl) (by kernel_rfl) (by kernel_rfl) (by kernel_rfl) (by kernel_rfl) (fun c a w h=>h) (yields_field70_2 (by rfl) 80 q (by rfl) (by simp [put_eval,put_size,hsz,h0,h7])) HS5 ?_
 have u0:=cell_blk f1 2 _ rfl
 have u1:=frz_blk f1 2
 refine ButLast.store68 (o:=p9x10) 10 (by kernel_rfl) (by rfl) (by rfl) 81 79 (by rfl) q 2 g (I.tops.length+1) c (by simp [put_eval,put_size,hsz,h0,h7]) (by simp [put_eval,put_size,hsz,h0,h7]) (.slice oa I.tops.length cap) u0 u1 (fun h=>absurd rfl h) (ButLast.done (by kernel_rfl) ?_)
 exact NoPanic.normal (hQ g c _ f0 (hat5.elim .inl (fun e=>.inr (by omega))) f3)
@[reducible] def p13x0:Oper:={ dst:=some 90,op:=Op.move (Operand.tmp 0),type:=25,pos:= "kinds.go:115",after:=#[],guard:=none }
@[reducible] def p13x1:Oper:={ dst:=some 91,op:=Op.move (Operand.tmp 0),type:=25,pos:= "kinds.go:115",after:=#[],guard:=none }
@[reducible] def p13x2:Oper:={ dst:=some 92,op:=Op.nilCheck (Operand.tmp 91),type:=0,pos:= "kinds.go:115",after:=#[{ on:=1,ground:=Ground.data }],guard:=none }
@[reducible] def p13x3:Oper:={ dst:=some 93,op:=Op.fieldAddr 70 (Operand.tmp 92) 3,type:=0,pos:= "kinds.go:115",after:=#[{ on:=2,ground:=Ground.data }],guard:=none }
@[reducible] def p13x4:Oper:={ dst:=some 94,op:=Op.load 30 (Operand.tmp 93),type:=30,pos:= "kinds.go:115",after:=#[{ on:=3,ground:=Ground.data }],guard:=none }
@[reducible] def p13x5:Oper:={ dst:=some 95,op:=Op.move (Operand.tmp 9),type:=3,pos:= "kinds.go:115",after:=#[],guard:=none }
@[reducible] def p13x6:Oper:={ dst:=some 96,op:=Op.move (Operand.tmp 6),type:=23,pos:= "kinds.go:115",after:=#[],guard:=none }
@[reducible] def p13x7:Oper:={ dst:=some 97,op:=Op.move (Operand.tmp 8),type:=3,pos:= "kinds.go:115",after:=#[],guard:=none }
@[reducible] def p13x8:Oper:={ dst:=some 98,op:=Op.fieldAddr 34 (Operand.tmp 3) 2,type:=0,pos:= "kinds.go:115",after:=#[],guard:=none }
@[reducible] def p13x9:Oper:={ dst:=some 99,op:=Op.load 3 (Operand.tmp 98),type:=3,pos:= "kinds.go:115",after:=#[{ on:=8,ground:=Ground.data }],guard:=none }
@[reducible] def p13x10:Oper:={ dst:=some 100,op:=Op.call ({ callee:=Callee.value (Operand.func 121),args:=#[Operand.tmp 96,Operand.tmp 97,Operand.tmp 99],argTypes:=#[23,3,3] }),type:=23,pos:= "kinds.go:115",after:=#[{ on:=6,ground:=Ground.data },{ on:=7,ground:=Ground.data },{ on:=9,ground:=Ground.data }],guard:=none }
@[reducible] def p13x11:Oper:={ dst:=some 101,op:=Op.fieldAddr 34 (Operand.tmp 3) 3,type:=0,pos:= "kinds.go:115",after:=#[],guard:=none }
@[reducible] def p13x12:Oper:={ dst:=some 102,op:=Op.load 3 (Operand.tmp 101),type:=3,pos:= "kinds.go:115",after:=#[{ on:=11,ground:=Ground.data }],guard:=none }
@[reducible] def p13x13:Oper:={ dst:=some 103,op:=Op.call ({ callee:=Callee.value (Operand.func 120),args:=#[Operand.tmp 95,Operand.tmp 100,Operand.tmp 102],argTypes:=#[3,23,3] }),type:=54,pos:= "kinds.go:115",after:=#[{ on:=5,ground:=Ground.data },{ on:=10,ground:=Ground.data },{ on:=12,ground:=Ground.data },{ on:=10,ground:=Ground.chain }],guard:=none }
@[reducible] def p13x14:Oper:={ dst:=some 104,op:=Op.buildSlice 30 1 #[(0,Operand.tmp 103)],type:=30,pos:= "kinds.go:115",after:=#[{ on:=13,ground:=Ground.data }],guard:=none }
@[reducible] def p13x15:Oper:={ dst:=some 105,op:=Op.call ({ callee:=Callee.builtin Builtin.append,args:=#[Operand.tmp 94,Operand.tmp 104],argTypes:=#[30,30] }),type:=30,pos:= "kinds.go:115",after:=#[{ on:=4,ground:=Ground.data },{ on:=14,ground:=Ground.data },{ on:=13,ground:=Ground.chain }],guard:=none }
@[reducible] def p13x16:Oper:={ dst:=some 106,op:=Op.nilCheck (Operand.tmp 90),type:=0,pos:= "kinds.go:115",after:=#[{ on:=0,ground:=Ground.data },{ on:=0,ground:=Ground.phase },{ on:=1,ground:=Ground.phase },{ on:=2,ground:=Ground.phase },{ on:=3,ground:=Ground.phase },{ on:=4,ground:=Ground.phase },{ on:=5,ground:=Ground.phase },{ on:=6,ground:=Ground.phase },{ on:=7,ground:=Ground.phase },{ on:=8,ground:=Ground.phase },{ on:=9,ground:=Ground.phase },{ on:=10,ground:=Ground.phase },{ on:=11,ground:=Ground.phase },{ on:=12,ground:=Ground.phase },{ on:=13,ground:=Ground.phase },{ on:=14,ground:=Ground.phase },{ on:=15,ground:=Ground.phase }],guard:=none }
@[reducible] def p13x17:Oper:={ dst:=some 107,op:=Op.fieldAddr 70 (Operand.tmp 106) 3,type:=0,pos:= "kinds.go:115",after:=#[{ on:=16,ground:=Ground.data },{ on:=0,ground:=Ground.phase },{ on:=1,ground:=Ground.phase },{ on:=2,ground:=Ground.phase },{ on:=3,ground:=Ground.phase },{ on:=4,ground:=Ground.phase },{ on:=5,ground:=Ground.phase },{ on:=6,ground:=Ground.phase },{ on:=7,ground:=Ground.phase },{ on:=8,ground:=Ground.phase },{ on:=9,ground:=Ground.phase },{ on:=10,ground:=Ground.phase },{ on:=11,ground:=Ground.phase },{ on:=12,ground:=Ground.phase },{ on:=13,ground:=Ground.phase },{ on:=14,ground:=Ground.phase },{ on:=15,ground:=Ground.phase }],guard:=none }
@[reducible] def p13x18:Oper:={ dst:=none,op:=Op.store 30 (Operand.tmp 107) (Operand.tmp 105),type:=0,pos:= "kinds.go:115",after:=#[{ on:=17,ground:=Ground.data },{ on:=15,ground:=Ground.data },{ on:=15,ground:=Ground.chain },{ on:=0,ground:=Ground.phase },{ on:=1,ground:=Ground.phase },{ on:=2,ground:=Ground.phase },{ on:=3,ground:=Ground.phase },{ on:=4,ground:=Ground.phase },{ on:=5,ground:=Ground.phase },{ on:=6,ground:=Ground.phase },{ on:=7,ground:=Ground.phase },{ on:=8,ground:=Ground.phase },{ on:=9,ground:=Ground.phase },{ on:=10,ground:=Ground.phase },{ on:=11,ground:=Ground.phase },{ on:=12,ground:=Ground.phase },{ on:=13,ground:=Ground.phase },{ on:=14,ground:=Ground.phase },{ on:=15,ground:=Ground.phase }],guard:=none }
@[reducible] def ps13:Array Oper:=#[p13x0,p13x1,p13x2,p13x3,p13x4,p13x5,p13x6,p13x7,p13x8,p13x9,p13x10,p13x11,p13x12,p13x13,p13x14,p13x15,p13x16,p13x17,p13x18]
theorem info54:∃ i,Tryz.prog.info? 54=some i∧i.zero=some (.agg PZ)∧i.size=9∧i.bytes=136:=⟨_,rfl,rfl,rfl,rfl⟩
theorem nine_one (p:Pt) (x1 x2 x3 x4:Option Addr) (y1 y2 y3 y4:Nat):∀ u∈([.int .i64 p.id,.int .i64 p.leader,.int .i64 p.epoch,.int .i64 p.ver,.slice x1 p.isr.length y1,.slice x2 p.reps.length y2,.slice x3 p.add.length y3,.slice x4 p.rem.length y4,.int .i64 p.min]:List Value),u.oneCell'=true:=fun u hu=>by
 simp at hu
 rcases hu with rfl | rfl | rfl | rfl | rfl | rfl | rfl | rfl | rfl <;> rfl
theorem region13 {Q:Exit→Act→World→Prop} (a:Act) {W:World} {L:Nat→Prop} {q b:Nat} {oa:Option Addr} {cap:Nat} {vt ve:Value} {ps:List (Value × Pt)} {I:Im} (h:ImC W L q b vt (.slice oa ps.length cap) ve ps I) (x nb k:Nat) (rk ra rc rd id:Int) (rn rt:ByteArray) (la:Option Addr) (ll lc:Nat) (hx:W.heap[x]?=some (.cells (RV rk ra (nb:Int) rc rd rn rt la ll lc) 34)) (hxo:¬ Own q b vt (.slice oa ps.length cap) ve x)
  (ua:Option Addr) (uc:Nat) (up:List Int) (hup:IL W (.slice ua up.length uc) up) (hu0:0<up.length) (hu1:up.length≤100) (hk:k≤100) (hn0:0<nb) (hn1:nb≤100) (hid':I64 id) (hrc:I64 rc) (hok:ImOk { I with parts:=I.parts++[newP id (roundL up k nb) rc] })
  (h0:a.eval (.tmp 0)=.pointer (some ⟨q,0,none⟩)) (h3:a.eval (.tmp 3)=.pointer (some ⟨x,0,none⟩)) (h6:a.eval (.tmp 6)=.slice ua up.length uc) (h8:a.eval (.tmp 8)=.int .i64 (k:Int)) (h9:a.eval (.tmp 9)=.int .i64 id) (hsz:a.tmps.size=111)
  (hQ:∀ (g c:Nat) (W3:World) (L':Nat→Prop) (ps':List (Value × Pt)) (LV PV BV AV:Value),ImC W3 L' q b vt (.slice (some ⟨g,0,none⟩) (ps.length+1) c) ve ps' { I with parts:=I.parts++[newP id (roundL up k nb) rc] }→(∀ j,L' j→L j∨W.heap.size≤j)→((Value.slice oa ps.length cap).ownBlock=some g∨W.heap.size≤g)→Keeps (Own q b vt (.slice oa ps.length cap) ve) W W3→Q .normal (((((((((((((((((((a.put (some 90) (.pointer (some ⟨q,0,none⟩))).put (some 91) (.pointer (some ⟨q,0,none⟩))).put (some 92) (.pointer (some ⟨q,0,none⟩))).put (some 93) (.pointer (some ⟨q,3,none⟩))).put (some 94) (.slice oa ps.length cap)).put (some 95) (.int .i64 id)).put (some 96) (.slice ua up.length uc)).put (some 97) (.int .i64 (k:Int))).put (some 98) (.pointer (some ⟨x,2,none⟩))).put (some 99) (.int .i64 (nb:Int))).put (some 101) (.pointer (some ⟨x,3,none⟩))).put (some 102) (.int .i64 rc)).put (some 100) (LV)).put (some 103) (PV)).put (some 104) (BV)).put (some 105) (AV)).put (some 106) (.pointer (some ⟨q,0,none⟩))).put (some 107) (.pointer (some ⟨q,3,none⟩))).put none undef) W3) :
  (Code.region 13 ps13 true).wp Tryz.prog Q a W:=by
 obtain ⟨j0,hj0,hz0,hz1,hz2⟩:=info54
 have hfew:ps.length≤16:=by have:=h.plen;have:=h.ok.few;omega
 have hqlt:q<W.heap.size:=h.lt (.inl rfl)
 have hxlt:x<W.heap.size:=(Array.getElem?_eq_some_iff.1 hx).1
 have HS0:W.drew.heap[q]?=some (.cells #[.int .i64 I.applied,.map (some b),vt,.slice oa ps.length cap,ve] 70)∧W.drew.heap[x]?=some (.cells (RV rk ra (nb:Int) rc rd rn rt la ll lc) 34):=⟨h.cells,hx⟩
 have HSB:∀ V,Below W.heap.size W V→V.heap[q]?=some (.cells #[.int .i64 I.applied,.map (some b),vt,.slice oa ps.length cap,ve] 70)∧V.heap[x]?=some (.cells (RV rk ra (nb:Int) rc rd rn rt la ll lc) 34):=fun V hV=>⟨(hV.block q hqlt).trans h.cells,(hV.block x hxlt).trans hx⟩
 refine wp_region_noPanic ?_
 refine region_last (fun V=>V.heap[q]?=some (.cells #[.int .i64 I.applied,.map (some b),vt,.slice oa ps.length cap,ve] 70)∧V.heap[x]?=some (.cells (RV rk ra (nb:Int) rc rd rn rt la ll lc) 34)) 18 (by kernel_rfl) ?_
 refine ButLast.take (oi:=p13x0) 0 (.pointer (some ⟨q,0,none⟩)) [17,16] (by rfl) (by kernel_rfl) (by kernel_rfl) (by kernel_rfl) (by kernel_rfl) (by kernel_rfl) (fun c a w h=>h) (yields_move (by rfl) 0 (by rfl) h0) HS0 ?_
 refine ButLast.take (oi:=p13x1) 1 (.pointer (some ⟨q,0,none⟩)) [15,4,3,2] (by rfl) (by kernel_rfl) (by kernel_rfl) (by kernel_rfl) (by kernel_rfl) (by kernel_rfl) (fun c a w h=>h) (yields_move (by rfl) 0 (by rfl) (by simp [put_eval,put_size,hsz,h0,h3,h6,h8,h9])) HS0 ?_
 refine ButLast.take (oi:=p13x2) 2 (.pointer (some ⟨q,0,none⟩)) [15,4,3] (by rfl) (by kernel_rfl) (by kernel_rfl) (by kernel_rfl) (by kernel_rfl) (by kernel_rfl) (fun c a w h=>h) (yields_nil (by rfl) 91 q (by rfl) (by simp [put_eval,put_size,hsz,h0,h3,h6,h8,h9])) HS0 ?_
 refine ButLast.take (oi:=p13x3) 3 (.pointer (some ⟨q,3,none⟩)) [15,4] (by rfl) (by kernel_rfl) (by kernel_rfl) (by kernel_rfl) (by kernel_rfl) (by kernel_rfl) (fun c a w h=>h) (yields_field70_3 (by rfl) 92 q (by rfl) (by simp [put_eval,put_size,hsz,h0,h3,h6,h8,h9])) HS0 ?_
 refine ButLast.take (oi:=p13x4) 4 (.slice oa ps.length cap) [15] (by rfl) (by kernel_rfl) (by kernel_rfl) (by kernel_rfl) (by kernel_rfl) (by kernel_rfl) (fun c a w h=>h) (yields_load30 (by rfl) 93 q 3 (by rfl) (by simp [put_eval,put_size,hsz,h0,h3,h6,h8,h9]) _ (fun V hV=>cell_blk hV.1 3 _ rfl)) HS0 ?_
 refine ButLast.take (oi:=p13x5) 5 (.int .i64 id) [15,14,13] (by rfl) (by kernel_rfl) (by kernel_rfl) (by kernel_rfl) (by kernel_rfl) (by kernel_rfl) (fun c a w h=>h) (yields_move (by rfl) 9 (by rfl) (by simp [put_eval,put_size,hsz,h0,h3,h6,h8,h9])) HS0 ?_
 refine ButLast.take (oi:=p13x6) 6 (.slice ua up.length uc) [15,14,13,10] (by rfl) (by kernel_rfl) (by kernel_rfl) (by kernel_rfl) (by kernel_rfl) (by kernel_rfl) (fun c a w h=>h) (yields_move (by rfl) 6 (by rfl) (by simp [put_eval,put_size,hsz,h0,h3,h6,h8,h9])) HS0 ?_
 refine ButLast.take (oi:=p13x7) 7 (.int .i64 (k:Int)) [15,14,13,10] (by rfl) (by kernel_rfl) (by kernel_rfl) (by kernel_rfl) (by kernel_rfl) (by kernel_rfl) (fun c a w h=>h) (yields_move (by rfl) 8 (by rfl) (by simp [put_eval,put_size,hsz,h0,h3,h6,h8,h9])) HS0 ?_
 refine ButLast.take (oi:=p13x8) 8 (.pointer (some ⟨x,2,none⟩)) [15,14,13,10,9] (by rfl) (by kernel_rfl) (by kernel_rfl) (by kernel_rfl) (by kernel_rfl) (by kernel_rfl) (fun c a w h=>h) (yields_field34_2 (by rfl) 3 x (by rfl) (by simp [put_eval,put_size,hsz,h0,h3,h6,h8,h9])) HS0 ?_
 refine ButLast.take (oi:=p13x9) 9 (.int .i64 (nb:Int)) [15,14,13,10] (by rfl) (by kernel_rfl) (by kernel_rfl) (by kernel_rfl) (by kernel_rfl) (by kernel_rfl) (fun c a w h=>h) (yields_load3 (by rfl) 98 x 2 (by rfl) (by simp [put_eval,put_size,hsz,h0,h3,h6,h8,h9]) _ (fun V hV=>cell_blk hV.2 2 _ rfl)) HS0 ?_
 refine ButLast.take (oi:=p13x11) 11 (.pointer (some ⟨x,3,none⟩)) [15,14,13,12] (by rfl) (by kernel_rfl) (by kernel_rfl) (by kernel_rfl) (by kernel_rfl) (by kernel_rfl) (fun c a w h=>h) (yields_field34_3 (by rfl) 3 x (by rfl) (by simp [put_eval,put_size,hsz,h0,h3,h6,h8,h9])) HS0 ?_
 refine ButLast.take (oi:=p13x12) 12 (.int .i64 rc) [15,14,13] (by rfl) (by kernel_rfl) (by kernel_rfl) (by kernel_rfl) (by kernel_rfl) (by kernel_rfl) (fun c a w h=>h) (yields_load3 (by rfl) 101 x 3 (by rfl) (by simp [put_eval,put_size,hsz,h0,h3,h6,h8,h9]) _ (fun V hV=>cell_blk hV.2 3 _ rfl)) HS0 ?_
 refine ButLast.one (o:=p13x10) 10 (by kernel_rfl) (by rfl) (fun K hK=>?_)
 refine step_go 121 #[.tmp 96,.tmp 97,.tmp 99] #[23,3,3] (by rfl) (by rfl) #[.slice ua up.length uc,.int .i64 (k:Int),.int .i64 (nb:Int)] (by simp [put_eval,put_size,hsz,h0,h3,h6,h8,h9]) (by kernel_rfl) (round_any (hup.under (Below.refl _ W).drew) hu0 k nb hk hn1 hu1) ?_
 rintro e V1 ⟨LV,rfl,hl1,hl2,hb1⟩
 have hB1:Below W.heap.size W V1:=(Below.refl _ W).drew.trans hb1
 have hll:(roundL up k nb).length=nb:=by simp [roundL]
 refine ⟨LV,rfl,hK.out _ _ (fun _=>HSB V1 hB1) ?_⟩
 clear hK K
 refine ButLast.one (o:=p13x13) 13 (by kernel_rfl) (by rfl) (fun K hK=>?_)
 refine step_go 120 #[.tmp 95,.tmp 100,.tmp 102] #[3,23,3] (by rfl) (by rfl) #[.int .i64 id,LV,.int .i64 rc] (by simp [put_eval,put_size,hsz,h0,h3,h6,h8,h9]) (by kernel_rfl) (newPart_any id rc hl1 (by rw [hll];exact hn0) hid' hrc) ?_
 rintro e V2 ⟨PV,rfl,hp1,hp2,hb2⟩
 have hB2:Below W.heap.size W V2:=hB1.trans (hb2.mono hB1.size)
 refine ⟨PV,rfl,hK.out _ _ (fun _=>HSB V2 hB2) ?_⟩
 clear hK K
 generalize hPP:newP id (roundL up k nb) rc=p at *
 have hp0:=hp1
 obtain ⟨x1,y1,x2,y2,x3,y3,x4,y4,rfl,_⟩:=hp1.open
 have hs2:=hB2.size
 have hs1:=hB1.size
 have hB3:Below W.heap.size W (V2.alloc (.cells (PP p x1 y1 x2 y2 x3 y3 x4 y4) 54)):=hB2.alloc hs2 _
 have HSZ:(V2.alloc (.cells (PP p x1 y1 x2 y2 x3 y3 x4 y4) 54)).heap.size=V2.heap.size+1:=by simp
 have HROW:(V2.alloc (.cells (PP p x1 y1 x2 y2 x3 y3 x4 y4) 54)).ownsRow 0 54 9 (.slice oa ps.length cap) ps.length (flatP ps):=(h.under hB3).parts
 have HNEW:∀ j u,([.int .i64 p.id,.int .i64 p.leader,.int .i64 p.epoch,.int .i64 p.ver,.slice x1 p.isr.length y1,.slice x2 p.reps.length y2,.slice x3 p.add.length y3,.slice x4 p.rem.length y4,.int .i64 p.min]:List Value)[j]?=some u→(V2.alloc (.cells (PP p x1 y1 x2 y2 x3 y3 x4 y4) 54)).cell? ((⟨V2.heap.size,0,none⟩:Addr).add j)=some u:=fun j u hu=>by
  rw [add_at,Nat.zero_add]
  refine cell_blk (w:=V2.alloc (.cells (PP p x1 y1 x2 y2 x3 y3 x4 y4) 54)) (heap_alloc_new V2 (.cells (PP p x1 y1 x2 y2 x3 y3 x4 y4) 54)) j u ?_
  rw [← hu]
  simp
 have HG:∀ (w5:World) (g c:Nat),w5.ownsRow 0 54 9 (.slice (some ⟨g,0,none⟩) (ps.length+1) c) (ps.length+1) (flatP ps++[.int .i64 p.id,.int .i64 p.leader,.int .i64 p.epoch,.int .i64 p.ver,.slice x1 p.isr.length y1,.slice x2 p.reps.length y2,.slice x3 p.add.length y3,.slice x4 p.rem.length y4,.int .i64 p.min])→(V2.alloc (.cells (PP p x1 y1 x2 y2 x3 y3 x4 y4) 54)).grownBy w5 (Value.slice oa ps.length cap).ownBlock→((Value.slice oa ps.length cap).ownBlock=some g∨g=V2.heap.size+1) →
   w5.heap[q]?=some (.cells #[.int .i64 I.applied,.map (some b),vt,.slice oa ps.length cap,ve] 70)∧w5.heap[x]?=some (.cells (RV rk ra (nb:Int) rc rd rn rt la ll lc) 34)∧ImC (w5.setCell ⟨q,3,none⟩ (.slice (some ⟨g,0,none⟩) (ps.length+1) c)) (fun j=>L j∨(V1.heap.size≤j∧j<V2.heap.size)) q b vt (.slice (some ⟨g,0,none⟩) (ps.length+1) c) ve (ps++[(.agg (PP p x1 y1 x2 y2 x3 y3 x4 y4),p)]) { I with parts:=I.parts++[p] }∧Keeps (Own q b vt (.slice oa ps.length cap) ve) W (w5.setCell ⟨q,3,none⟩ (.slice (some ⟨g,0,none⟩) (ps.length+1) c)):=fun w5 g c hown hg hat=>by
  have hs5:=hg.size
  have hblk:∀ j,j<V2.heap.size→(Value.slice oa ps.length cap).ownBlock≠some j→w5.heap[j]?=V2.heap[j]?:=fun j hj hne=>by
   rw [hg.block j (by rw [HSZ];omega) (fun e=>hne e.symm),Below.heap_alloc _ _ _ hj]
  have hqc:=(hblk q (by omega) h.ne_q.2.1).trans ((hB2.block q hqlt).trans h.cells)
  have hvl:∀ j,(Value.slice oa ps.length cap).ownBlock=some j→j<W.heap.size:=fun j hj=>h.lt (.inr (.inr (.inr (.inl hj))))
  have hnew:∀ j,(Value.slice (some ⟨g,0,none⟩) (ps.length+1) c).ownBlock=some j→(Value.slice oa ps.length cap).ownBlock=some j∨V2.heap.size+1≤j:=fun j hj=>by
   cases hj
   rcases hat with e | e
   ·exact .inl e
   ·exact .inr (by show V2.heap.size+1≤g;omega)
  have hoth:∀ j,j<W.heap.size→j≠q→(Value.slice oa ps.length cap).ownBlock≠some j→(w5.setCell ⟨q,3,none⟩ (.slice (some ⟨g,0,none⟩) (ps.length+1) c)).heap[j]?=W.heap[j]?:=fun j hj hjq hje=>by
   rw [Below.heap_setCell _ _ _ _ hjq,hblk j (by omega) hje,hB2.block j hj]
  refine ⟨hqc,(hblk x (by omega) (fun e=>hxo (.inr (.inr (.inr (.inl e)))))).trans (HSB V2 hB2).2,h.swapP (X:=fun j=>V1.heap.size≤j∧j<V2.heap.size) (by simp;omega) hoth (set_box hqc) ?_ (fun j hj=>(hnew j hj).imp (fun e=>e) (fun e=>by omega)) ?_ (hp2.and hp0.old) (fun j hj=>⟨by simp;omega,by omega,fun e=>?_⟩) hok,⟨hg.os.trans hB2.os,hg.tape.trans hB2.tape,hg.output.trans hB2.output,by simp;omega,fun j hj hS=>hoth j hj (fun e=>hS (.inl e)) (fun e=>hS (.inr (.inr (.inr (.inl e)))))⟩⟩
  ·have hqv:(Value.slice (some ⟨g,0,none⟩) (ps.length+1) c).ownBlock≠some q:=fun e=>by
    rcases hnew q e with e | e
    ·exact h.ne_q.2.1 e
    ·omega
   have h5:=row_kept hown (w1:=w5.setCell ⟨q,3,none⟩ (.slice (some ⟨g,0,none⟩) (ps.length+1) c)) (fun j hj=>Below.heap_setCell _ _ _ _ (fun e=>hqv (by rw [hj,e])))
   rw [flatP_append]
   exact h5
  ·refine hp0.kept (hp2.and hp0.old) (fun j hj=>?_) (by simp;omega)
   rw [Below.heap_setCell _ _ _ _ (by simp;omega)]
   exact hblk j hj.2 (fun e=>by have:=hvl j e;omega)
  ·rcases hnew j e with e | e
   ·have:=hvl j e;omega
   ·omega
 refine ButLast.one (o:=p13x14) 14 (by kernel_rfl) (by rfl) (fun K hK=>?_)
 refine step_one30 (by rfl) 103 (by rfl) p.id p.leader p.epoch p.ver p.min x1 x2 x3 x4 p.isr.length p.reps.length p.add.length p.rem.length y1 y2 y3 y4 (by simp [put_eval,put_size,hsz,h0,h3,h6,h8,h9]) ?_
 refine hK.out _ _ (fun _=>HSB _ hB3) ?_
 clear hK K
 refine ButLast.one (o:=p13x15) 15 (by kernel_rfl) (by rfl) (fun K hK=>?_)
 refine step_append_lies _ (by rfl) (.tmp 94) (.tmp 104) 30 (by rfl) 0 54 j0 _ 9 136 Tryz.underlying30 hj0 hz0 hz1 hz2 rfl (by decide) (.slice oa ps.length cap) ps.length (flatP ps) (by simp [put_eval,put_size,hsz,h0,h3,h6,h8,h9]) HROW ⟨V2.heap.size,0,none⟩ 1 1 [.int .i64 p.id,.int .i64 p.leader,.int .i64 p.epoch,.int .i64 p.ver,.slice x1 p.isr.length y1,.slice x2 p.reps.length y2,.slice x3 p.add.length y3,.slice x4 p.rem.length y4,.int .i64 p.min] (by simp [put_eval,put_size,hsz,h0,h3,h6,h8,h9]) rfl HNEW (nine_one _ _ _ _ _ _ _ _ _) (by decide) (by unfold maxLen;omega) (by omega) (Nat.zero_le _) (V2.heap.size+1) HSZ ?_
 intro g c w5 hown5 hg5 hat5 hlt5
 obtain ⟨f1,f2,f0,f3⟩:=HG w5 g c hown5 hg5 hat5
 have HS5:w5.heap[q]?=some (.cells #[.int .i64 I.applied,.map (some b),vt,.slice oa ps.length cap,ve] 70)∧w5.heap[x]?=some (.cells (RV rk ra (nb:Int) rc rd rn rt la ll lc) 34):=⟨f1,f2⟩
 refine hK.out _ _ (fun _=>HS5) ?_
 clear hK K
 refine ButLast.take (oi:=p13x16) 16 (.pointer (some ⟨q,0,none⟩)) [17] (by rfl) (by kernel_rfl) (by kernel_rfl) (by kernel_rfl) (by kernel_rfl) (by kernel_rfl) (fun c a w h=>h) (yields_nil (by rfl) 90 q (by rfl) (by simp [put_eval,put_size,hsz,h0,h3,h6,h8,h9])) HS5 ?_
 refine ButLast.take (oi:=p13x17) 17 (.pointer (some ⟨q,3,none⟩)) [] (by rfl) (by kernel_rfl) (by kernel_rfl) (by kernel_rfl) (by kernel_rfl) (by kernel_rfl) (fun c a w h=>h) (yields_field70_3 (by rfl) 106 q (by rfl) (by simp [put_eval,put_size,hsz,h0,h3,h6,h8,h9])) HS5 ?_
 have u0:=cell_blk f1 3 _ rfl
 have u1:=frz_blk f1 3
 refine ButLast.store30 (o:=p13x18) 18 (by kernel_rfl) (by rfl) (by rfl) 107 105 (by rfl) q 3 g (ps.length+1) c (by simp [put_eval,put_size,hsz,h0,h3,h6,h8,h9]) (by simp [put_eval,put_size,hsz,h0,h3,h6,h8,h9]) (.slice oa ps.length cap) u0 u1 (fun h=>absurd rfl h) (ButLast.done (by kernel_rfl) ?_)
 exact NoPanic.normal (hQ g c _ _ _ _ _ _ _ f0 (fun j hj=>hj.imp (fun e=>e) (fun e=>by omega)) (hat5.imp (fun e=>e) (fun e=>by omega)) f3)
theorem roundL_mem {l:List Int} {k n:Nat} (hl:0<l.length) {x:Int} (hx:x∈roundL l k n):x∈l:=by
 obtain ⟨i,_,rfl⟩:=List.mem_map.1 hx
 have h:(k+i) % l.length<l.length:=Nat.mod_lt _ hl
 rw [List.getElem?_eq_getElem h]
 simp
theorem roundL_nodup {l:List Int} {k n:Nat} (hd:l.Nodup) (hn:n≤l.length):(roundL l k n).Nodup:=by
 unfold roundL
 rw [List.Nodup,List.pairwise_map]
 refine List.Pairwise.imp_of_mem (R:=fun a b=>a<b) ?_ List.pairwise_lt_range
 intro i j hi hj hij
 have h1:=List.mem_range.1 hi
 have h2:=List.mem_range.1 hj
 have hl:0<l.length:=by omega
 have a1:(k+i) % l.length<l.length:=Nat.mod_lt _ hl
 have a2:(k+j) % l.length<l.length:=Nat.mod_lt _ hl
 rw [List.getElem?_eq_getElem a1,List.getElem?_eq_getElem a2]
 simp only [Option.getD_some]
 intro e
 have hp:=List.pairwise_iff_getElem.1 hd
 have e2:(k+i) % l.length=(k+j) % l.length:=by
  rcases Nat.lt_trichotomy ((k+i) % l.length) ((k+j) % l.length) with h | h | h
  ·exact absurd e (hp _ _ a1 a2 h)
  ·exact h
  ·exact absurd e.symm (hp _ _ a2 a1 h)
 have e3:=Nat.div_add_mod (k+i) l.length
 have e4:=Nat.div_add_mod (k+j) l.length
 rw [e2] at e3
 have e5:l.length*((k+j) / l.length)=l.length*((k+i) / l.length)+(j - i):=by omega
 have e6:l.length∣(j - i):=⟨(k+j) / l.length - (k+i) / l.length,by rw [Nat.mul_sub];omega⟩
 have:=Nat.le_of_dvd (by omega) e6
 omega
theorem newP_right {l:List Int} {k n:Nat} {id c:Int} (hd:l.Nodup∧∀ x∈l,1≤x∧x≤7) (hn0:0<n) (hn:n≤l.length) (hid:1≤id∧id≤16) (hc:1≤c∧c≤5):RightP (newP id (roundL l k n) c):=by
 have hl:0<l.length:=by omega
 have hr:(roundL l k n).Nodup∧∀ x∈roundL l k n,1≤x∧x≤7:=⟨roundL_nodup hd.1 hn,fun x hx=>hd.2 x (roundL_mem hl hx)⟩
 have hne:roundL l k n≠[]:=by intro e;have:=congrArg List.length e;simp [roundL] at this;omega
 have hnil:([]:List Int).Nodup∧∀ x∈([]:List Int),1≤x∧x≤7:=⟨by simp,fun x hx=>by cases hx⟩
 generalize roundL l k n=R at *
 refine ⟨hid,hc,by unfold newP;simp,by unfold newP;simp,hr,hr,hnil,hnil,hne,fun x hx=>hx,(fun x hx=>by cases hx),(fun x hx=>by cases hx),(fun x hx=>by cases hx),?_,.inr ?_⟩
 ·show outL R []≠[]
  rw [outL_self (fun x _ h=>by cases h)]
  exact hne
 ·show headL R∈R
  cases R with
  | nil=>exact absurd rfl hne
  | cons a r=>simp [headL]
theorem moreP_succ (n:Nat) (up:List Int) (b:Nat) (c:Int) (k:Nat):moreP n up b c (k+1)=moreP n up b c k++[newP ((n:Int)+1+(k:Int)) (roundL up k b) c]:=by
 simp [moreP,List.range_succ]
theorem moreP_len (n:Nat) (up:List Int) (b:Nat) (c:Int) (k:Nat):(moreP n up b c k).length=k:=by simp [moreP]
theorem ImOk.push {I:Im} (h:ImOk I) {p:Pt} (hp:RightP p) (hi:p.id=(I.parts.length:Int)+1) (hf:I.parts.length<16):ImOk { I with parts:=I.parts++[p] }:=by
 refine ⟨h.keys,h.brs,fun j r hr=>?_,by simp;omega,h.tops,h.name,h.nums,h.eps,h.epv,h.app⟩
 rcases Nat.lt_or_ge j I.parts.length with hlt | hge
 ·rw [List.getElem?_append_left hlt] at hr
  exact h.parts j r hr
 ·rw [List.getElem?_append_right hge] at hr
  have hj:j - I.parts.length=0:=by
   rcases Nat.eq_zero_or_pos (j - I.parts.length) with h0 | h0
   ·exact h0
   ·rw [List.getElem?_eq_none (by simp;omega)] at hr;cases hr
  rw [hj] at hr
  simp at hr
  subst hr
  exact ⟨hp,by rw [hi];omega⟩
theorem own_some {g n c k:Nat} (h:(Value.slice (some ⟨g,0,none⟩) n c).ownBlock=some k):g=k:=by cases h;rfl
structure TopL (W wr:World) (L:Nat→Prop) (q b:Nat) (vt vp ve:Value) (J:Im) (up:List Int) (nb:Nat) (rc:Int) (k:Nat):Prop where
 im:∃ L' oa cap ps,ImC wr L' q b vt (.slice oa ps.length cap) ve ps { J with parts:=J.parts++moreP J.parts.length up nb rc k }∧(∀ j,L' j→L j∨W.heap.size≤j)∧(∀ j,(Value.slice oa ps.length cap).ownBlock=some j→vp.ownBlock=some j∨W.heap.size≤j)
 keeps:Keeps (Own q b vt vp ve) W wr
theorem TopL.start {W:World} {L:Nat→Prop} {q b:Nat} {vt ve:Value} {J:Im} {ps:List (Value × Pt)} {oa:Option Addr} {cap:Nat} (h:ImC W L q b vt (.slice oa ps.length cap) ve ps J) (up:List Int) (nb:Nat) (rc:Int):TopL W W L q b vt (.slice oa ps.length cap) ve J up nb rc 0 :=
 ⟨⟨L,oa,cap,ps,by simp [moreP];exact h,fun j hj=>.inl hj,fun j hj=>.inl hj⟩,Keeps.refl _ _⟩
theorem TopL.next {W wr W3:World} {L L1 L2:Nat→Prop} {q b:Nat} {vt vp ve:Value} {J:Im} {up:List Int} {nb:Nat} {rc:Int} {k:Nat} {oa:Option Addr} {cap g c:Nat} {ps ps2:List (Value × Pt)} (hk:Keeps (Own q b vt vp ve) W wr)
  (h1:∀ j,L1 j→L j∨W.heap.size≤j) (h2:∀ j,(Value.slice oa ps.length cap).ownBlock=some j→vp.ownBlock=some j∨W.heap.size≤j)
  (i1:ImC W3 L2 q b vt (.slice (some ⟨g,0,none⟩) (ps.length+1) c) ve ps2 { J with parts:=(J.parts++moreP J.parts.length up nb rc k)++[newP ((J.parts.length:Int)+1+(k:Int)) (roundL up k nb) rc] })
  (i2:∀ j,L2 j→L1 j∨wr.heap.size≤j) (i3:(Value.slice oa ps.length cap).ownBlock=some g∨wr.heap.size≤g) (i4:Keeps (Own q b vt (.slice oa ps.length cap) ve) wr W3):TopL W W3 L q b vt vp ve J up nb rc (k+1):=by
 have hs:=hk.size
 have hl:ps.length+1=ps2.length:=by
  obtain ⟨_,_,e,_⟩:=row_shape i1.parts
  simp only [Value.slice.injEq] at e
  exact e.2.1
 refine ⟨⟨L2,some ⟨g,0,none⟩,c,ps2,?_,fun j hj=>?_,fun j hj=>?_⟩,hk.trans i4 (fun j hj=>?_)⟩
 ·rw [moreP_succ,← List.append_assoc,← hl]
  exact i1
 ·rcases i2 j hj with h | h
  ·exact h1 j h
  ·exact .inr (Nat.le_trans hs h)
 ·cases hj
  rcases i3 with h | h
  ·exact h2 g h
  ·exact .inr (Nat.le_trans hs h)
 ·rcases hj with e | e | e | e | e
  ·exact .inl (.inl e)
  ·exact .inl (.inr (.inl e))
  ·exact .inl (.inr (.inr (.inl e)))
  ·rcases h2 j e with e | e
   ·exact .inl (.inr (.inr (.inr (.inl e))))
   ·exact .inr e
  ·exact .inl (.inr (.inr (.inr (.inr e))))
end Go.Proofs.YtcffomhcmilcpaaGreat
