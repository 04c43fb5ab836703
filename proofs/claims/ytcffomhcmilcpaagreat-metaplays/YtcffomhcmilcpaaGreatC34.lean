/- A list is read back. -/
import Derived.Test.YtcffomhcmilcpaaGreatC32
import Derived.Test.YtcffomhcmilcpaaGreatC33
import Derived.Test.YtcffomhcmilcpaaGreatC4
import Derived.Test.YtcffomhcmilcpaaGreatC22
set_option maxRecDepth 100000
set_option maxHeartbeats 20000000
set_option linter.unusedVariables false
set_option linter.unusedSimpArgs false
namespace Go.Proofs.YtcffomhcmilcpaaGreat
open Go.RowKit Go.Maps
theorem intsL_drop (ns:List Int) (k:Nat) (h:k<ns.length):W.intsL (ns.drop k)=W.intL ns[k]++W.intsL (ns.drop (k+1)):=by
 rw [List.drop_eq_getElem_cons h]
 rfl
theorem row_keptU {w w1:World} {B e s:Nat} {v:Value} {n:Nat} {xs:List Value} (h:w.ownsRow B e s v n xs) (hb:∀ k,v.ownBlock=some k→w1.heap[k]?=w.heap[k]?):w1.ownsRow B e s v n xs:=by
 obtain ⟨h1,h2⟩:=h
 rcases h2 with h2 | ⟨g,cap,cur,rfl,hB,hg,r⟩
 ·exact ⟨h1,.inl h2⟩
 ·exact ⟨h1,.inr ⟨g,cap,cur,rfl,hB,(hb g rfl).trans hg,r⟩⟩
def RLs (w U wr:World) (Z:Nat→Prop) (q x:Nat) (I:Im) (ns:List Int) (l:List UInt8) (k:Nat) (v:Value):Prop :=
 LO w U wr Z q x I (W.intsL (ns.drop k)++l)∧wr.ownsRow U.heap.size 3 1 v k (vals (ns.take k))
theorem readList_any {w U:World} {Z:Nat→Prop} {q x:Nat} {I:Im} {ns:List Int} {l:List UInt8} {most:Int} (h:LS w U Z q x I (lstB ns++l)) (hn:(ns.length:Int)≤most) (hm:most≤1000) (hi:∀ n∈ns,I64 n) :
  Calls Tryz.prog 97 #[.pointer (some ⟨x,0,none⟩),.int .i64 most] U fun e w'=>∃ v,e=.returned v∧IL w' v ns∧In (fun b=>U.heap.size≤b) v ns∧w'.ownsRow U.heap.size 3 1 v ns.length (vals ns)∧LO w U w' Z q x I l:=by
 obtain ⟨i0,hi0,hz0,hz1,hz2⟩:=info3
 have h':LS w U Z q x I (W.intL (ns.length:Int)++(W.intsL ns++l)):=by
  rw [← List.append_assoc]
  exact h
 have hxl:=h.lt
 have HWU:Hid (w.heap.size≤U.heap.size):=h.below.size
 have HZL:Hid (∀ k,Z k→k<U.heap.size):=h.1.1.lt
 have HC:=hid (h'.count (n:=(ns.length:Int)) (most:=most) ⟨by omega,hn⟩ (by omega))
 have HI:=hid hi
 clear h h' hi
 go_enter Tryz.func97,Tryz.ntmps97
 go_wp2_with fail
 refine HC.out.mono ?_
 rintro e U1 ⟨rfl,ho⟩
 have H0:Hid (RLs w U U1 Z q x I ns l 0 (.slice none 0 0)):=⟨by simpa using ho,World.ownsRow_nil _ _ _ _⟩
 clear ho HC
 go_wp2_with fail
 go_loopg [5,9] ns.length (fun kx s5 s9 wr=>∃ (k:Nat) (oa:Option Addr) (c:Nat),k≤ns.length∧ns.length - k≤kx∧s5=.slice oa k c∧s9=.int .i64 (k:Int)∧Hid (RLs w U wr Z q x I ns l k (.slice oa k c)))
 case atStart=>exact ⟨0,none,0,Nat.zero_le _,by omega,rfl,rfl,H0.out⟩
 case round =>
  obtain ⟨k,oa,c,hk,hkx,rfl,rfl,HK⟩:=hrel
  clear H0
  by_cases hlt:k<ns.length
  ·have hlt':(k:Int)<(ns.length:Int):=by omega
   have HCI:Hid (Calls Tryz.prog 43 #[.pointer (some ⟨x,0,none⟩)] wr fun e w'=>e=.returned (.int .i64 ns[k])∧LO w wr w' Z q x I (W.intsL (ns.drop (k+1))++l)):=by
    have:=HK.out.1.1
    rw [intsL_drop ns k hlt,List.append_assoc] at this
    exact this.int (HI.out _ (List.getElem_mem hlt))
   have HT:Hid (vals (ns.take k)++[.int .i64 ns[k]]=vals (ns.take (k+1))):=by
    show _=_
    rw [List.take_succ_eq_append_getElem hlt]
    unfold vals
    rw [List.map_append]
    rfl
   generalize ns[k]=y at *
   go_wp2_with fail
   refine HCI.out.mono ?_
   rintro e w2 ⟨rfl,ho⟩
   have HL:Hid (LO w U w2 Z q x I (W.intsL (ns.drop (k+1))++l)):=HK.out.1.trans ho
   have HX:Hid ((w2.alloc (.cells #[.int .i64 y] 3)).ownsRow U.heap.size 3 1 (.slice oa k c) k (vals (ns.take k))):=by
    have h2:=row_keptU HK.out.2 (w1:=w2) (fun j hj=>by
     have:=World.ownsRow.lt HK.out.2 j hj
     exact ho.2.block j this.2 (by omega))
    exact h2.alloc _
   have HN1:Hid (∀ j u,([.int .i64 y]:List Value)[j]?=some u→(w2.alloc (.cells #[.int .i64 y] 3)).cell? ((⟨w2.heap.size,0,none⟩:Addr).add j)=some u):=fun j u hu=>by
    cases j with
    | zero=>simp at hu;subst hu;rw [add_at];exact cell_blk (heap_alloc_new _ _) 0 _ rfl
    | succ j=>simp at hu
   have HO2:Hid (∀ u∈([.int .i64 y]:List Value),u.oneCell'=true):=fun u hu=>by simp at hu;subst hu;rfl
   have HWZ:Hid ((w2.alloc (.cells #[.int .i64 y] 3)).heap.size=w2.heap.size+1):=by show _=_;simp
   have hbs:=HL.out.2.size
   have HNX:Hid (∀ w3 g c2,w3.ownsRow U.heap.size 3 1 (.slice (some ⟨g,0,none⟩) (k+1) c2) (k+1) (vals (ns.take k)++[.int .i64 y])→(w2.alloc (.cells #[.int .i64 y] 3)).grownBy w3 (Value.slice oa k c).ownBlock→RLs w U w3 Z q x I ns l (k+1) (.slice (some ⟨g,0,none⟩) (k+1) c2)):=fun w3 g c2 h1 h2=>by
    rw [HT.out] at h1
    have hB:Below U.heap.size w2 w3:=(((Below.refl _ _).alloc (Nat.le_refl _) _).mono hbs).grown h2 (by simp;omega) (fun j hj=>(World.ownsRow.lt HX.out j hj).1)
    obtain ⟨⟨⟨z1,z2⟩,z3,z4,z5⟩,z6⟩:=HL.out
    exact ⟨⟨⟨⟨z1.kept (fun k hk=>hB.block k (HZL.out k hk)) hB.size,z2⟩,z3.kept (hB.block x hxl),z4,z5.trans (hB.mono HWU.out)⟩,⟨hB.os.trans z6.os,hB.tape.trans z6.tape,hB.output.trans z6.output,Nat.le_trans z6.size hB.size,fun k hk hS=>(hB.block k hk).trans (z6.block k hk hS)⟩⟩,h1⟩
   clear ho HCI HK
   go_wp2_with (at_builtin;go_loud (refine wpList_append_lies _ rfl _ _ 23 rfl U.heap.size 3 i0 _ 1 8 Tryz.underlying23 hi0 hz0 hz1 hz2 rfl (by decide) _ k _ rfl HX.out ⟨w2.heap.size,0,none⟩ 1 1 [.int .i64 y] rfl rfl HN1.out HO2.out (by decide) (by unfold maxLen;omega) (by omega) (by simp;omega) (w2.heap.size+1) HWZ.out ?_);intro g c2 w3 hown3 hg3 hat3 _;have HPS:=hid (HNX.out w3 g c2 hown3 hg3);clear hown3 hg3 hat3)
   go_roundg (ns.length - (k+1))
   case measure=>omega
   case rel=>exact ⟨k+1,some ⟨g,0,none⟩,c2,by omega,Nat.le_refl _,rfl,by go_num,HPS.out⟩
  ·have hlt':¬ (k:Int)<(ns.length:Int):=by omega
   obtain rfl:k=ns.length:=by omega
   go_wp2_with fail
   go_ret
   obtain ⟨r1,r2⟩:=HK.out
   rw [List.take_length] at r2
   rw [List.drop_length] at r1
   have r3:=il_of_row (l:=ns) (by simpa [vals,intsV] using r2) HI.out (by omega)
   exact ⟨_,rfl,r3.1,r3.2,r2,r1⟩
structure RP (w U V:World) (Z:Nat→Prop) (q x y:Nat) (I:Im) (l:List UInt8) (zs cs:Array Value) (ls:List (Value × List Int)):Prop where
 lo:LO w U V Z q x I l
 z:V.heap[U.heap.size]?=some (.cells zs 54)
 b:V.heap[y]?=some (.cells cs 54)
 hy:U.heap.size<y
 hx:x<U.heap.size
 each:∀ p∈ls,IL V p.1 p.2∧In (fun k=>U.heap.size<k∧k≠y) p.1 p.2
theorem RP.ylt {w U V:World} {Z:Nat→Prop} {q x y:Nat} {I:Im} {l:List UInt8} {zs cs:Array Value} {ls:List (Value × List Int)} (h:RP w U V Z q x y I l zs cs ls):y<V.heap.size:=(Array.getElem?_eq_some_iff.1 h.b).1
theorem RP.read {w U V:World} {Z:Nat→Prop} {q x y:Nat} {I:Im} {l:List UInt8} {zs cs:Array Value} {ls:List (Value × List Int)} {ns:List Int} (h:RP w U V Z q x y I (lstB ns++l) zs cs ls) (hn:ns.length≤7) (hi:∀ n∈ns,I64 n) :
  Calls Tryz.prog 97 #[.pointer (some ⟨x,0,none⟩),.int .i64 7] V fun e w'=>∃ v,e=.returned v∧RP w U w' Z q x y I l zs cs (ls++[(v,ns)]):=by
 have hyl:=h.ylt
 refine (readList_any h.lo.1 (most:=7) (by omega) (by omega) hi).mono ?_
 rintro e w' ⟨v,rfl,h1,h2,_,h3⟩
 have hx:=h.hx
 have hy:=h.hy
 refine ⟨v,rfl,h.lo.trans h3,(h3.2.block _ (by omega) (by omega)).trans h.z,(h3.2.block _ hyl (by omega)).trans h.b,h.hy,h.hx,fun p hp=>?_⟩
 rcases List.mem_append.1 hp with hp | hp
 ·obtain ⟨g1,g2⟩:=h.each p hp
  exact ⟨keeps_il (B:=U.heap.size) h3.2 g1 (g2.mono (fun b hb=>by omega)) h.hx,g2⟩
 ·obtain rfl:=List.mem_singleton.1 hp
  exact ⟨h1,h2.mono (fun b hb=>by omega)⟩
theorem LO.set {w U V:World} {Z:Nat→Prop} {q x y:Nat} {I:Im} {l:List UInt8} (h:LO w U V Z q x I l) (hZ:∀ k,Z k→k<U.heap.size) (hy:U.heap.size≤y) (hx:x<U.heap.size) (hw:w.heap.size≤U.heap.size) {N:World} (hN:∀ k,k≠y→N.heap[k]?=V.heap[k]?) (hs:V.heap.size≤N.heap.size) (hB:Below w.heap.size w N) (ho:N.os=V.os∧N.tape=V.tape∧N.output=V.output):LO w U N Z q x I l:=by
 obtain ⟨⟨⟨h1,h2⟩,h3,h4,h5⟩,h6⟩:=h
 exact ⟨⟨⟨h1.kept (fun k hk=>hN k (by have:=hZ k hk;omega)) hs,h2⟩,h3.kept (hN x (by omega)),h4,hB⟩,⟨ho.1.trans h6.os,ho.2.1.trans h6.tape,ho.2.2.trans h6.output,Nat.le_trans h6.size hs,fun k hk hS=>(hN k (by omega)).trans (h6.block k hk hS)⟩⟩
theorem RP.set {w U V:World} {Z:Nat→Prop} {q x y:Nat} {I:Im} {l:List UInt8} {zs cs:Array Value} {ls:List (Value × List Int)} (h:RP w U V Z q x y I l zs cs ls) (hZ:∀ k,Z k→k<U.heap.size) (hw:w.heap.size≤U.heap.size) (j:Nat) (u:Value):RP w U (V.setCell ⟨y,j,none⟩ u) Z q x y I l zs (cs.setIfInBounds j u) ls:=by
 have hN:∀ k,k≠y→(V.setCell ⟨y,j,none⟩ u).heap[k]?=V.heap[k]?:=fun k hk=>Below.heap_setCell _ _ _ _ hk
 refine ⟨h.lo.set hZ (Nat.le_of_lt h.hy) h.hx hw hN (by simp) (h.lo.1.below.setCell (by show w.heap.size≤y;have:=h.hy;omega) _) ⟨rfl,rfl,rfl⟩,(hN _ (by have:=h.hy;omega)).trans h.z,set_box h.b,h.hy,h.hx,fun p hp=>?_⟩
 obtain ⟨g1,g2⟩:=h.each p hp
 exact ⟨g1.off (q:=y) (g2.mono (fun b hb=>hb.2)) (fun b hb=>hN b hb) (by simp),g2⟩
theorem readPart_any {w U:World} {Z:Nat→Prop} {q x:Nat} {I:Im} {p:Pt} {l:List UInt8} (h:LS w U Z q x I (ptOne p++l)) (hp:RightP p) :
  Calls Tryz.prog 95 #[.pointer (some ⟨x,0,none⟩),.int .i64 p.id] U fun e w'=>∃ v,e=.returned v∧PartM w' v p∧InP (fun b=>U.heap.size≤b) v p∧LO w U w' Z q x I l:=by
 have HZ:=hid h.1.1.lt
 have HWU:=hid h.below.size
 have hxl:=h.lt
 obtain ⟨pid,pld,pep,pvr,isr,reps,add,rem,mn⟩:=p
 have m1:=ids_len hp.isr
 have m2:=ids_len hp.reps
 have m3:=ids_len hp.add
 have m4:=ids_len hp.rem
 have i64:∀ l:List Int,(l.Nodup∧∀ x∈l,1≤x∧x≤7)→∀ n∈l,I64 n:=fun l hl n hn=>by have:=hl.2 n hn;unfold I64;omega
 have J1:=hid (i64 _ hp.isr)
 have J2:=hid (i64 _ hp.reps)
 have J3:=hid (i64 _ hp.add)
 have J4:=hid (i64 _ hp.rem)
 have k2:I64 pld:=by
  rcases hp.lead with e | e
  ·simp only at e;rw [e];unfold I64;omega
  ·exact i64 _ hp.isr _ e
 have k1:I64 pid:=by have:=hp.id;simp only at this;unfold I64;omega
 have k3:I64 pep:=by have:=hp.epoch;simp only at this;unfold I64;omega
 have k4:I64 pvr:=by have:=hp.ver;simp only at this;unfold I64;omega
 have k5:I64 mn:=by have:=hp.min;simp only at this;unfold I64;omega
 simp only at m1 m2 m3 m4 J1 J2 J3 J4 ⊢
 have HB:Hid (LS w U Z q x I (W.intL pld++(W.intL pep++(W.intL pvr++(W.intL mn++(lstB isr++(lstB reps++(lstB add++(lstB rem++l))))))))):=by
  have e:ptOne ⟨pid,pld,pep,pvr,isr,reps,add,rem,mn⟩++l=W.intL pld++(W.intL pep++(W.intL pvr++(W.intL mn++(lstB isr++(lstB reps++(lstB add++(lstB rem++l))))))):=by
   unfold ptOne
   simp [W.intsL,List.append_assoc]
  show LS _ _ _ _ _ _ _
  rw [← e]
  exact h
 clear h hp i64
 go_enter Tryz.func95,Tryz.ntmps95
 go_upto_region 1 with fail
 have HC0:Hid (LS w (U.alloc (.cells #[.int .i64 0,.int .i64 0,.int .i64 0,.int .i64 0,.slice none 0 0,.slice none 0 0,.slice none 0 0,.slice none 0 0,.int .i64 0] 54)) Z q x I (W.intL pld++(W.intL pep++(W.intL pvr++(W.intL mn++(lstB isr++(lstB reps++(lstB add++(lstB rem++l))))))))):=HB.out.under ((Below.refl _ _).alloc (Nat.le_refl _) _)
 have HZB:=hid (heap_alloc_new U (.cells #[.int .i64 0,.int .i64 0,.int .i64 0,.int .i64 0,.slice none 0 0,.slice none 0 0,.slice none 0 0,.slice none 0 0,.int .i64 0] 54))
 have HS0:Hid (Keeps (fun k=>k=x) U (U.alloc (.cells #[.int .i64 0,.int .i64 0,.int .i64 0,.int .i64 0,.slice none 0 0,.slice none 0 0,.slice none 0 0,.slice none 0 0,.int .i64 0] 54))):=Keeps.of_below ((Below.refl _ _).alloc (Nat.le_refl _) _)
 have hsz:(U.alloc (.cells #[.int .i64 0,.int .i64 0,.int .i64 0,.int .i64 0,.slice none 0 0,.slice none 0 0,.slice none 0 0,.slice none 0 0,.int .i64 0] 54)).heap.size=U.heap.size+1:=by simp
 obtain ⟨zs,hzs⟩:∃ zs:Array Value,zs=#[.int .i64 0,.int .i64 0,.int .i64 0,.int .i64 0,.slice none 0 0,.slice none 0 0,.slice none 0 0,.slice none 0 0,.int .i64 0]:=⟨_,rfl⟩
 rw [← hzs] at HC0 HZB HS0 hsz ⊢
 have HZS:Hid (zs.size=9):=by show _=_;rw [hzs];rfl
 clear hzs HB
 generalize U.alloc (.cells zs 54)=V0 at *
 have HV0:Hid (V0.heap[U.heap.size]?=some (.cells zs 54)):=HZB.out
 have HSZ:=hid hsz
 clear hsz HZB
 go_wp2_with fail
 refine (HC0.out.int k2).mono ?_
 rintro e V1 ⟨rfl,ho⟩
 have HC1:=hid ho.1
 have HS1:=hid (HS0.out.trans ho.2 (fun j hj=>.inl hj))
 have HV1:Hid (V1.heap[U.heap.size]?=some (.cells zs 54)):=(ho.2.block _ (Array.getElem?_eq_some_iff.1 HV0.out).1 (by omega)).trans HV0.out
 clear ho HC0 HS0 HV0
 go_wp2_with fail
 refine (HC1.out.int k3).mono ?_
 rintro e V2 ⟨rfl,ho⟩
 have HC2:=hid ho.1
 have HS2:=hid (HS1.out.trans ho.2 (fun j hj=>.inl hj))
 have HV2:Hid (V2.heap[U.heap.size]?=some (.cells zs 54)):=(ho.2.block _ (Array.getElem?_eq_some_iff.1 HV1.out).1 (by omega)).trans HV1.out
 clear ho HC1 HS1 HV1
 go_wp2_with fail
 refine (HC2.out.int k4).mono ?_
 rintro e V3 ⟨rfl,ho⟩
 have HC3:=hid ho.1
 have HS3:=hid (HS2.out.trans ho.2 (fun j hj=>.inl hj))
 have HV3:Hid (V3.heap[U.heap.size]?=some (.cells zs 54)):=(ho.2.block _ (Array.getElem?_eq_some_iff.1 HV2.out).1 (by omega)).trans HV2.out
 clear ho HC2 HS2 HV2
 go_wp2_with fail
 refine (HC3.out.int k5).mono ?_
 rintro e V4 ⟨rfl,ho⟩
 have HC4:=hid ho.1
 have HS4:=hid (HS3.out.trans ho.2 (fun j hj=>.inl hj))
 have HV4:Hid (V4.heap[U.heap.size]?=some (.cells zs 54)):=(ho.2.block _ (Array.getElem?_eq_some_iff.1 HV3.out).1 (by omega)).trans HV3.out
 clear ho HC3 HS3 HV3
 have hzl:=(Array.getElem?_eq_some_iff.1 HV4.out).1
 go_upto_region 2 with fail
 have HR0:Hid (RP w U (V4.alloc (.cells #[.int .i64 pid,.int .i64 pld,.int .i64 pep,.int .i64 pvr,.slice none 0 0,.slice none 0 0,.slice none 0 0,.slice none 0 0,.int .i64 mn] 54)) Z q x V4.heap.size I (lstB isr++(lstB reps++(lstB add++(lstB rem++l)))) zs #[.int .i64 pid,.int .i64 pld,.int .i64 pep,.int .i64 pvr,.slice none 0 0,.slice none 0 0,.slice none 0 0,.slice none 0 0,.int .i64 mn] []):=by
  have hb:Below V4.heap.size V4 (V4.alloc (.cells #[.int .i64 pid,.int .i64 pld,.int .i64 pep,.int .i64 pvr,.slice none 0 0,.slice none 0 0,.slice none 0 0,.slice none 0 0,.int .i64 mn] 54)):=(Below.refl _ _).alloc (Nat.le_refl _) _
  exact ⟨⟨HC4.out.under hb,HS4.out.trans (Keeps.of_below hb) (fun j hj=>.inl hj)⟩,(hb.block _ hzl).trans HV4.out,heap_alloc_new _ _,hzl,hxl,fun p hp=>by cases hp⟩
 generalize V4.alloc (.cells #[.int .i64 pid,.int .i64 pld,.int .i64 pep,.int .i64 pvr,.slice none 0 0,.slice none 0 0,.slice none 0 0,.slice none 0 0,.int .i64 mn] 54)=V5 at *
 generalize V4.heap.size=y at *
 clear HC4 HS4 HV4 hzl
 go_wp2_with fail
 refine (HR0.out.read m1 J1.out).mono ?_
 rintro e V6 ⟨v1,rfl,hr1⟩
 have HR1:=hid hr1
 obtain ⟨a1,c1,e1,_⟩:=(hr1.each (v1,isr) (by simp)).1.shape
 simp only at e1
 clear hr1 HR0
 subst e1
 go_wp2_with fail
 refine (HR1.out.read m2 J2.out).mono ?_
 rintro e V7 ⟨v2,rfl,hr2⟩
 obtain ⟨a2,c2,e2,_⟩:=(hr2.each (v2,reps) (by simp)).1.shape
 simp only at e2
 subst e2
 have d4:=cell_blk hr2.b 4 _ rfl
 have d5:=cell_blk hr2.b 5 _ rfl
 have dz:=frz_blk hr2.b
 have HR2:=hid ((hr2.set HZ.out HWU.out 4 (.slice a1 isr.length c1)).set HZ.out HWU.out 5 (.slice a2 reps.length c2))
 clear hr2 HR1
 go_upto_region 3 with fail
 generalize (V7.setCell ⟨y,4,none⟩ (.slice a1 isr.length c1)).setCell ⟨y,5,none⟩ (.slice a2 reps.length c2)=V8 at *
 clear d4 d5 dz
 go_wp2_with fail
 refine (HR2.out.read m3 J3.out).mono ?_
 rintro e V9 ⟨v3,rfl,hr3⟩
 have HR3:=hid hr3
 obtain ⟨a3,c3,e3,_⟩:=(hr3.each (v3,add) (by simp)).1.shape
 simp only at e3
 clear hr3 HR2
 subst e3
 go_wp2_with fail
 refine (HR3.out.read m4 J4.out).mono ?_
 rintro e V10 ⟨v4,rfl,hr4⟩
 obtain ⟨a4,c4,e4,_⟩:=(hr4.each (v4,rem) (by simp)).1.shape
 simp only at e4
 subst e4
 have d6:=cell_blk hr4.b 6 _ rfl
 have d7:=cell_blk hr4.b 7 _ rfl
 have dz:=frz_blk hr4.b
 have HR4:=hid ((hr4.set HZ.out HWU.out 6 (.slice a3 add.length c3)).set HZ.out HWU.out 7 (.slice a4 rem.length c4))
 clear hr4 HR3
 go_upto_region 4 with fail
 generalize (V10.setCell ⟨y,6,none⟩ (.slice a3 add.length c3)).setCell ⟨y,7,none⟩ (.slice a4 rem.length c4)=V11 at *
 clear d6 d7 dz
 have hb:V11.heap[y]?=some (.cells #[.int .i64 pid,.int .i64 pld,.int .i64 pep,.int .i64 pvr,.slice a1 isr.length c1,.slice a2 reps.length c2,.slice a3 add.length c3,.slice a4 rem.length c4,.int .i64 mn] 54):=HR4.out.b
 have g0:=cell_blk hb 0 (.int .i64 pid) rfl
 have g1:=cell_blk hb 1 (.int .i64 pld) rfl
 have g2:=cell_blk hb 2 (.int .i64 pep) rfl
 have g3:=cell_blk hb 3 (.int .i64 pvr) rfl
 have g4:=cell_blk hb 4 (.slice a1 isr.length c1) rfl
 have g5:=cell_blk hb 5 (.slice a2 reps.length c2) rfl
 have g6:=cell_blk hb 6 (.slice a3 add.length c3) rfl
 have g7:=cell_blk hb 7 (.slice a4 rem.length c4) rfl
 have g8:=cell_blk hb 8 (.int .i64 mn) rfl
 have hzb:=HR4.out.z
 have zsz:=HZS.out
 have zc:∀ t,t<9→∃ u,V11.cell? ⟨U.heap.size,t,none⟩=some u:=fun t ht=>⟨_,cell_blk hzb t _ (Array.getElem?_eq_getElem (by omega))⟩
 obtain ⟨u0,s0⟩:=zc 0 (by decide)
 obtain ⟨u1,s1⟩:=zc 1 (by decide)
 obtain ⟨u2,s2⟩:=zc 2 (by decide)
 obtain ⟨u3,s3⟩:=zc 3 (by decide)
 obtain ⟨u4,s4⟩:=zc 4 (by decide)
 obtain ⟨u5,s5⟩:=zc 5 (by decide)
 obtain ⟨u6,s6⟩:=zc 6 (by decide)
 obtain ⟨u7,s7⟩:=zc 7 (by decide)
 obtain ⟨u8,s8⟩:=zc 8 (by decide)
 have fz:=frz_blk hzb
 have HPU:=hid (puts_all [.int .i64 pid,.int .i64 pld,.int .i64 pep,.int .i64 pvr,.slice a1 isr.length c1,.slice a2 reps.length c2,.slice a3 add.length c3,.slice a4 rem.length c4,.int .i64 mn] V11 U.heap.size 0)
 have HB9:=hid (HPU.out.box9 hzb zsz)
 clear hb hzb zc
 go_wp2_with fail
 show bodyPost Tryz.prog Tryz.f95 _ Exit.ret _ (puts V11 U.heap.size 0 [.int .i64 pid,.int .i64 pld,.int .i64 pep,.int .i64 pvr,.slice a1 isr.length c1,.slice a2 reps.length c2,.slice a3 add.length c3,.slice a4 rem.length c4,.int .i64 mn])
 generalize puts V11 U.heap.size 0 [.int .i64 pid,.int .i64 pld,.int .i64 pep,.int .i64 pvr,.slice a1 isr.length c1,.slice a2 reps.length c2,.slice a3 add.length c3,.slice a4 rem.length c4,.int .i64 mn]=N at *
 obtain ⟨r0,r1,r2,r3,r4,r5,r6,r7,r8⟩:=cells9 HB9.out
 have hsN:V11.heap.size≤N.heap.size:=by rw [HPU.out.size];exact Nat.le_refl _
 have hLO:LO w U N Z q x I l:=HR4.out.lo.set HZ.out (Nat.le_refl _) hxl HWU.out (fun k hk=>HPU.out.other k hk) hsN (HPU.out.below HR4.out.lo.1.below HWU.out) ⟨HPU.out.os,HPU.out.tape,HPU.out.output⟩
 have hE:∀ p∈([]++[(Value.slice a1 isr.length c1,isr)]++[(Value.slice a2 reps.length c2,reps)]++[(Value.slice a3 add.length c3,add)]++[(Value.slice a4 rem.length c4,rem)]:List (Value × List Int)),IL N p.1 p.2∧In (fun b=>U.heap.size≤b) p.1 p.2:=fun p hp=>by
  obtain ⟨t1,t2⟩:=HR4.out.each p hp
  exact ⟨t1.off (q:=U.heap.size) (t2.mono (fun b hb=>by omega)) (fun b hb=>HPU.out.other b hb) hsN,t2.mono (fun b hb=>by omega)⟩
 have E1:=hE (.slice a1 isr.length c1,isr) (by simp)
 have E2:=hE (.slice a2 reps.length c2,reps) (by simp)
 have E3:=hE (.slice a3 add.length c3,add) (by simp)
 have E4:=hE (.slice a4 rem.length c4,rem) (by simp)
 refine bodyPost_ret (v:=.agg #[.int .i64 pid,.int .i64 pld,.int .i64 pep,.int .i64 pvr,.slice a1 isr.length c1,.slice a2 reps.length c2,.slice a3 add.length c3,.slice a4 rem.length c4,.int .i64 mn]) (by simp [results,Tryz.results95,go_sem,r0,r1,r2,r3,r4,r5,r6,r7,r8]) rfl ⟨_,rfl,⟨_,_,_,_,rfl,E1.1,E2.1,E3.1,E4.1,k1,k2,k3,k4,k5⟩,?_,hLO⟩
 intro i0 l0 m0 e0 a b c d n0 e
 simp only [Value.agg.injEq] at e
 have ee:=congrArg Array.toList e
 simp at ee
 obtain ⟨_,_,_,_,rfl,rfl,rfl,rfl,_⟩:=ee
 exact ⟨E1.2,E2.2,E3.2,E4.2⟩
@[reducible] def wPt (J:Im) (ps:List Pt):Im:={ J with parts:=ps }
theorem pt_ok {J:Im} {P:List Pt} (h:ImOk (wPt J P)) (k:Nat):ImOk (wPt J (P.take k)) :=
 ⟨h.keys,h.brs,fun i p hp=>h.parts i p (by
  have hp':(P.take k)[i]?=some p:=hp
  rw [List.getElem?_take] at hp'
  split at hp'
  ·exact hp'
  ·cases hp'),by show (P.take k).length≤16;have:P.length≤16:=h.few;simp;omega,h.tops,h.name,h.nums,h.eps,h.epv,h.app⟩
theorem readParts_any {w U:World} {q x:Nat} {J:Im} {P:List Pt} {l:List UInt8} (h:LE w U q x (wPt J []) (W.intL (P.length:Int)++(ptB P++l))) (hn:nxT J.tops=(P.length:Int)+1) (hok:ImOk (wPt J P)) :
  Calls Tryz.prog 46 #[.pointer (some ⟨q,0,none⟩),.pointer (some ⟨x,0,none⟩)] U fun e w'=>e=.returned (.bool true)∧LE w w' q x (wPt J P) l:=by
 obtain ⟨Z,h⟩:=h
 have hl16:P.length≤16:=hok.few
 have HC:=hid (h.count (n:=(P.length:Int)) (most:=16) ⟨by omega,by omega⟩ (by omega))
 have HOK:=hid hok
 have HNX:=hid hn
 clear h hok hn
 go_enter Tryz.func46,Tryz.ntmps46
 go_wp2_with fail
 refine HC.out.mono ?_
 rintro e U1 ⟨rfl,ho⟩
 have HNP:Hid (Calls Tryz.prog 94 #[.pointer (some ⟨q,0,none⟩)] U1 fun e w'=>e=.returned (.int .i64 ((P.length:Int)+1))∧Below U1.heap.size U1 w'):=by
  obtain ⟨⟨⟨L,b,vt,vp,ve,ps,h1,_⟩,_⟩,_⟩:=ho.1
  have:=nextPart_any h1
  have e:nxT (wPt J []).tops=(P.length:Int)+1:=HNX.out
  rw [e] at this
  exact this
 have HL1:=hid ho.1
 clear ho HC
 have hw1:IntKind.i64.wrap ((P.length:Int)+1 - 1)=(P.length:Int):=by rw [show (P.length:Int)+1 - 1=(P.length:Int) by omega];exact IntWalk.i64_in _ ⟨by omega,by omega⟩
 go_wp2_with fail
 refine HNP.out.mono ?_
 rintro e U2 ⟨rfl,hb2⟩
 have H0:Hid (LE w U2 q x (wPt J (P.take 0)) (((P.drop 0).map ptOne).flatten++l)):=⟨Z,HL1.out.under hb2⟩
 clear hb2 HL1 HNP
 go_wp2_with fail
 go_loopg [16] P.length (fun kx s16 wr=>∃ (k:Nat),k≤P.length∧P.length - k≤kx∧s16=.int .i64 (k:Int)∧Hid (LE w wr q x (wPt J (P.take k)) (((P.drop k).map ptOne).flatten++l)))
 case atStart=>exact ⟨0,Nat.zero_le _,by omega,rfl,H0.out⟩
 case round =>
  obtain ⟨k,hk,hkx,rfl,HR⟩:=hrel
  clear H0
  by_cases hlt:k<P.length
  ·have hlt':(k:Int)<(P.length:Int):=by omega
   obtain ⟨hri,hid0⟩:=HOK.out.parts k _ (List.getElem?_eq_getElem hlt)
   have HRI:=hid hri
   have HID:=hid hid0
   have HNO:=hid (pt_ok HOK.out (k+1))
   have HTK:Hid (P.take (k+1)=P.take k++[P[k]]):=by show _=_;exact List.take_succ_eq_append_getElem hlt
   obtain ⟨Z,hZ⟩:=HR.out
   have HR0:Hid (LS w wr Z q x (wPt J (P.take k)) (ptOne P[k]++(((P.drop (k+1)).map ptOne).flatten++l))):=by
    have:=hZ
    rw [flat_drop ptOne P k hlt,List.append_assoc] at this
    exact this
   have HZL:=hid hZ.1.1.lt
   have hxw:=hZ.lt
   have hww:=hZ.below.size
   clear HR hZ hri hid0
   have hrb:=rightB_iff.2 HRI.out
   have HRB:=hid hrb
   have HRP:=hid (readPart_any HR0.out HRI.out)
   rw [show (wPt J P).parts[k].id=(k:Int)+1 from HID.out] at HRP
   clear hrb
   generalize hPk:P[k]=p at *
   have hw2:IntKind.i64.wrap ((k:Int)+1)=(k:Int)+1:=IntWalk.i64_in _ ⟨by omega,by omega⟩
   clear hPk
   go_wp2_with fail
   refine HRP.out.mono ?_
   rintro e V1 ⟨v,rfl,hpm,hin,ho⟩
   obtain ⟨x1,y1,x2,y2,x3,y3,x4,y4,e,_⟩:=hpm.open
   subst e
   have HLS:=hid ho.1
   have HPM:=hid hpm
   have HIN:=hid hin
   have hBs:=ho.2.size
   clear ho hpm hin HRP HR0
   go_upto_region 8 with fail
   have hbA:Below V1.heap.size V1 (V1.alloc (.cells (PP p x1 y1 x2 y2 x3 y3 x4 y4) 54)):=(Below.refl _ _).alloc (Nat.le_refl _) _
   have HLS2:=hid (HLS.out.under hbA)
   have HPM2:=hid (HPM.out.under hbA)
   have HBX:=hid (heap_alloc_new V1 (.cells (PP p x1 y1 x2 y2 x3 y3 x4 y4) 54))
   clear hbA HLS HPM
   generalize V1.alloc (.cells (PP p x1 y1 x2 y2 x3 y3 x4 y4) 54)=V at *
   generalize V1.heap.size=y at *
   have g0:=cell_blk HBX.out 0 (.int .i64 p.id) rfl
   have g1:=cell_blk HBX.out 1 (.int .i64 p.leader) rfl
   have g2:=cell_blk HBX.out 2 (.int .i64 p.epoch) rfl
   have g3:=cell_blk HBX.out 3 (.int .i64 p.ver) rfl
   have g4:=cell_blk HBX.out 4 (.slice x1 p.isr.length y1) rfl
   have g5:=cell_blk HBX.out 5 (.slice x2 p.reps.length y2) rfl
   have g6:=cell_blk HBX.out 6 (.slice x3 p.add.length y3) rfl
   have g7:=cell_blk HBX.out 7 (.slice x4 p.rem.length y4) rfl
   have g8:=cell_blk HBX.out 8 (.int .i64 p.min) rfl
   have HRC:=hid (right_any HPM2.out)
   rw [HRB.out] at HRC
   go_wp2_with fail
   refine HRC.out.mono ?_
   rintro e N ⟨rfl,hbN⟩
   have HLS3:=hid (HLS2.out.under hbN)
   have HPM3:=hid (HPM2.out.under hbN)
   have HBY:=hid ((hbN.block y (Array.getElem?_eq_some_iff.1 HBX.out).1).trans HBX.out)
   clear hbN HLS2 HPM2 HBX HRC g0 g1 g2 g3 g4 g5 g6 g7 g8
   go_upto_region 10 with fail
   obtain ⟨⟨⟨L,b,vt,vp,ve,ps,h1,hz1,hz2,hz3⟩,h2⟩,h3,h4,h5⟩:=HLS3.out
   obtain ⟨op,cp,hvp,_⟩:=row_shape h1.parts
   subst hvp
   have hB0:∀ j,Own q b vt (.slice op ps.length cp) ve j∨L j→j<wr.heap.size:=fun j hj=>HZL.out j (hj.elim (hz1 j) (hz2 j))
   have hyo:¬ Own q b vt (.slice op ps.length cp) ve y:=fun ho=>by have:=hB0 y (.inl ho);omega
   have HOK5:ImOk { (wPt J (P.take k)) with parts:=(wPt J (P.take k)).parts++[p] }:=by
    show ImOk (wPt J (P.take k++[p]))
    rw [← HTK.out]
    exact HNO.out
   have hwr:=HZL.out
   have hxl:=h3.lt
   have hws:=h5.size
   have HZ5:=hid (And.intro hz1 (And.intro hz2 (And.intro h2 (And.intro h3 (And.intro h4 h5)))))
   refine regionP _ h1 wr.heap.size hB0 p x1 x2 x3 x4 y1 y2 y3 y4 HPM3.out HIN.out y HBY.out hyo HOK5 rfl rfl rfl ?_
   intro g c M i1 i2 i3
   simp only [Act.put,List.setIfInBounds_toArray,List.set_cons_zero,List.set_cons_succ]
   have HV3:Hid (LE w M q x (wPt J (P.take (k+1))) (((P.drop (k+1)).map ptOne).flatten++l)):=by
    obtain ⟨z1,z2,z4,z5,z6,z7⟩:=HZ5.out
    refine ⟨fun j=>Own q b vt (.slice (some ⟨g,0,none⟩) (ps.length+1) c) ve j∨(L j∨(wr.heap.size≤j∧j<N.heap.size)),⟨⟨(fun j=>L j∨(wr.heap.size≤j∧j<N.heap.size)),b,vt,.slice (some ⟨g,0,none⟩) (ps.length+1) c,ve,ps++[(.agg (PP p x1 y1 x2 y2 x3 y3 x4 y4),p)],?_,fun j hj=>.inl hj,fun j hj=>.inr hj,fun j hj=>hj.elim (fun h=>i1.lt h) (fun h=>(i1.lists j h).1)⟩,fun j hj=>?_⟩,z5.kept (i3.block x z5.lt (fun ho=>(z4 x (z1 x ho)).2 rfl)),z6,z7.trans (i3.below z7.size (fun j hj=>(z4 j (z1 j hj)).1))⟩
    ·have e:wPt J (P.take (k+1))={ (wPt J (P.take k)) with parts:=(wPt J (P.take k)).parts++[p] }:=by unfold wPt;rw [HTK.out]
     rw [e]
     exact i1
    ·have key:∀ j,Own q b vt (.slice op ps.length cp) ve j→w.heap.size≤j∧j≠x:=fun j h=>z4 j (z1 j h)
     rcases hj with (e | e | e | e | e) | e | e
     ·exact key j (.inl e)
     ·exact key j (.inr (.inl e))
     ·exact key j (.inr (.inr (.inl e)))
     ·have eg:g=j:=own_some e
      subst eg
      rcases i2 with e2 | e2
      ·exact key g (.inr (.inr (.inr (.inl e2))))
      ·omega
     ·exact key j (.inr (.inr (.inr (.inr e))))
     ·exact z4 j (z2 j e)
     ·omega
   clear i1 i2 i3 HZ5 h1 h2 h3 h4 h5 hz1 hz2 hz3 HLS3 HPM3 HBY HIN
   go_wp2_with fail
   go_roundg (P.length - (k+1))
   case measure=>omega
   case rel=>exact ⟨k+1,by omega,Nat.le_refl _,by go_num,HV3.out⟩
  ·have hlt':¬ (k:Int)<(P.length:Int):=by omega
   obtain rfl:k=P.length:=by omega
   have HE:Hid (LE w wr q x (wPt J P) l):=by
    have:=HR.out
    rw [List.take_length,List.drop_length] at this
    exact this
   clear HR
   go_wp2_with fail
   go_ret
   exact ⟨rfl,HE.out⟩
@[reducible] def wEp (J:Im) (es:List Int):Im:={ J with eps:=es }
theorem ImC.withE {w:World} {L:Nat→Prop} {q b:Nat} {vt vp ve v2:Value} {ps:List (Value × Pt)} {I:Im} (h:ImC w L q b vt vp ve ps I) {es:List Int} (hrow:w.ownsRow 0 3 1 v2 es.length (intsV es)) (hnew:∀ k,v2.ownBlock=some k→¬ (Own q b vt vp ve k∨L k)) (hok:ImOk (wEp I es)) :
  ImC (w.setCell ⟨q,4,none⟩ v2) L q b vt vp v2 ps (wEp I es):=by
 have hN:∀ k,k≠q→(w.setCell ⟨q,4,none⟩ v2).heap[k]?=w.heap[k]?:=fun k hk=>Below.heap_setCell _ _ _ _ hk
 refine ⟨set_box h.cells,?_,row_kept h.tops (fun k hk=>hN k (fun e=>h.ne_q.1 (by rw [← e];exact hk))),row_kept h.parts (fun k hk=>hN k (fun e=>h.ne_q.2.1 (by rw [← e];exact hk))),row_kept hrow (fun k hk=>hN k (fun e=>hnew k hk (.inl (.inl e)))),fun y hy=>?_,h.abs,fun k hk=>⟨by simpa using (h.lists k hk).1,?_⟩,hok⟩
 ·obtain ⟨es2,clock,hm,r⟩:=h.bmap
  exact ⟨es2,clock,(hN b (fun e=>h.ne_qb e.symm)).trans hm,r⟩
 ·obtain ⟨h1,h2⟩:=h.each y hy
  exact ⟨h1.kept h2 (fun k hk=>hN k (fun e=>(h.lists k hk).2 (.inl e))) (by simp),h2⟩
 ·rintro (e | e | e | e | e)
  ·exact (h.lists k hk).2 (.inl e)
  ·exact (h.lists k hk).2 (.inr (.inl e))
  ·exact (h.lists k hk).2 (.inr (.inr (.inl e)))
  ·exact (h.lists k hk).2 (.inr (.inr (.inr (.inl e))))
  ·exact hnew k e (.inr hk)
theorem readEps_any {w U:World} {q x:Nat} {J:Im} {es:List Int} {l:List UInt8} (h:LE w U q x (wEp J []) (lstB es++l)) (hok:ImOk (wEp J es)) :
  Calls Tryz.prog 47 #[.pointer (some ⟨q,0,none⟩),.pointer (some ⟨x,0,none⟩)] U fun e w'=>e=.returned (.bool true)∧LE w w' q x (wEp J es) l:=by
 obtain ⟨Z,h⟩:=h
 have hl:es.length≤1000:=hok.eps
 have HV:=hid hok.epv
 have HOK:=hid hok
 have HI64:Hid (∀ n∈es,I64 n):=fun n hn=>by have:=hok.epv n hn;unfold I64;omega
 have HRL:=hid (readList_any h (most:=1000) (by omega) (by omega) HI64.out)
 have HZL:=hid h.1.1.lt
 have hww:=h.below.size
 have hxU:=h.lt
 clear h hok
 go_enter Tryz.func47,Tryz.ntmps47
 go_wp2_with fail
 refine HRL.out.mono ?_
 rintro e V ⟨v,rfl,hil,hin,hrow,ho⟩
 obtain ⟨av,cv,rfl,_⟩:=row_shape (row_base hrow (Nat.zero_le _))
 obtain ⟨⟨⟨L,b,vt,vp,ve,ps,h1,hz1,hz2,hz3⟩,h2⟩,h3,h4,h5⟩:=ho.1
 have hfr:∀ k,(Value.slice av es.length cv).ownBlock=some k→U.heap.size≤k:=fun k hk=>(World.ownsRow.lt hrow k hk).1
 have hI:ImC (V.setCell ⟨q,4,none⟩ (.slice av es.length cv)) L q b vt vp (.slice av es.length cv) ps (wEp (wEp J []) es):=h1.withE (row_base hrow (Nat.zero_le _)) (fun k hk ho'=>by
  have h8:=hfr k hk
  have:=HZL.out k (ho'.elim (hz1 k) (hz2 k))
  omega) HOK.out
 have hqx:q≠x:=(h2 q (hz1 q (.inl rfl))).2
 have hqw:w.heap.size≤q:=(h2 q (hz1 q (.inl rfl))).1
 have HN:Hid (LE w (V.setCell ⟨q,4,none⟩ (.slice av es.length cv)) q x (wEp J es) l):=by
  refine ⟨fun j=>Own q b vt vp (.slice av es.length cv) j∨L j,⟨⟨L,b,vt,vp,_,ps,hI,fun j hj=>.inl hj,fun j hj=>.inr hj,fun j hj=>hj.elim (fun h=>hI.lt h) (fun h=>(hI.lists j h).1)⟩,fun j hj=>?_⟩,h3.kept (Below.heap_setCell _ _ _ _ (fun e=>hqx e.symm)),h4,h5.setCell hqw _⟩
  have key:∀ j,Own q b vt vp ve j→w.heap.size≤j∧j≠x:=fun j h=>h2 j (hz1 j h)
  rcases hj with (e | e | e | e | e) | e
  ·exact key j (.inl e)
  ·exact key j (.inr (.inl e))
  ·exact key j (.inr (.inr (.inl e)))
  ·exact key j (.inr (.inr (.inr (.inl e))))
  ·have:=hfr j e;omega
  ·exact h2 j (hz2 j e)
 have c4:=h1.c4
 have f4:=h1.fz 4
 have HC4:=hid hI.c4
 have HIL:Hid (IL (V.setCell ⟨q,4,none⟩ (.slice av es.length cv)) (.slice av es.length cv) es):=(il_of_row hI.eps HI64.out (by show es.length≤_;omega)).1
 clear hil hin hrow ho h1 h2 h3 h4 h5 hz1 hz2 hz3 hI HRL hqx hqw hfr
 go_upto_region 2 with fail
 generalize V.setCell ⟨q,4,none⟩ (.slice av es.length cv)=N at *
 have c4':=HC4.out
 clear c4 f4
 go_wp2_with fail
 obtain ⟨⟨a',c',e',_,_,_,hat⟩,_,_⟩:=id HIL.out
 obtain ⟨rfl,_,rfl⟩:=Value.slice.inj e'
 have HAT:=hid hat
 clear hat e' c4'
 go_loopg [17] es.length (fun kx s17 wr=>∃ (k:Nat),k≤es.length∧es.length - k≤kx∧s17=.int .i64 (k:Int)∧wr=N)
 case atStart=>exact ⟨0,Nat.zero_le _,by omega,rfl,rfl⟩
 case round =>
  obtain ⟨k,hk,hkx,rfl,rfl⟩:=hrel
  by_cases hlt:k<es.length
  ·have hlt':(k:Int)<(es.length:Int):=by omega
   obtain ⟨bb,off,rfl,hb,hc⟩:=HAT.out (by intro e;rw [e] at hlt;simp at hlt)
   have hck:=hc k hlt
   have hev:=HV.out es[k] (List.getElem_mem hlt)
   clear hc
   generalize es[k]=y at *
   obtain ⟨v1,v2⟩:=hev
   have v1':¬ (y<0):=by omega
   have v2':¬ (1000000000<y):=by omega
   go_wp2_with fail
   go_roundg (es.length - (k+1))
   case measure=>omega
   case rel=>exact ⟨k+1,by omega,Nat.le_refl _,by go_num,rfl⟩
  ·have hlt':¬ (k:Int)<(es.length:Int):=by omega
   go_wp2_with fail
   go_ret
   exact ⟨rfl,HN.out⟩
structure LdOk (I:Im):Prop where
 ok:ImOk I
 tp:TpOk I.tops
 nx:nxT I.tops=(I.parts.length:Int)+1
theorem ImC.withA {w:World} {L:Nat→Prop} {q b:Nat} {vt vp ve:Value} {ps:List (Value × Pt)} {I:Im} (h:ImC w L q b vt vp ve ps I) (n:Int) (hok:ImOk { I with applied:=n }):ImC (w.setCell ⟨q,0,none⟩ (.int .i64 n)) L q b vt vp ve ps { I with applied:=n }:=by
 have hN:∀ k,k≠q→(w.setCell ⟨q,0,none⟩ (.int .i64 n)).heap[k]?=w.heap[k]?:=fun k hk=>Below.heap_setCell _ _ _ _ hk
 refine ⟨set_box h.cells,?_,row_kept h.tops (fun k hk=>hN k (fun e=>h.ne_q.1 (by rw [← e];exact hk))),row_kept h.parts (fun k hk=>hN k (fun e=>h.ne_q.2.1 (by rw [← e];exact hk))),row_kept h.eps (fun k hk=>hN k (fun e=>h.ne_q.2.2 (by rw [← e];exact hk))),fun y hy=>?_,h.abs,fun k hk=>⟨by simpa using (h.lists k hk).1,(h.lists k hk).2⟩,hok⟩
 ·obtain ⟨es2,clock,hm,r⟩:=h.bmap
  exact ⟨es2,clock,(hN b (fun e=>h.ne_qb e.symm)).trans hm,r⟩
 ·obtain ⟨h1,h2⟩:=h.each y hy
  exact ⟨h1.kept h2 (fun k hk=>hN k (fun e=>(h.lists k hk).2 (.inl e))) (by simp),h2⟩
theorem ok0 {I:Im} (h:ImOk I):ImOk ⟨I.applied,[],[],[],[]⟩:=⟨by simp,by simp,by simp,by simp,by simp [sumT],by simp,by simp,by simp,by simp,h.app⟩
theorem ok2 {I:Im} (h:ImOk I):ImOk ⟨I.applied,I.brs,I.tops,[],[]⟩:=⟨h.keys,h.brs,by simp,by simp,h.tops,h.name,h.nums,by simp,by simp,h.app⟩
theorem ok3 {I:Im} (h:ImOk I):ImOk ⟨I.applied,I.brs,I.tops,I.parts,[]⟩:=⟨h.keys,h.brs,h.parts,h.few,h.tops,h.name,h.nums,by simp,by simp,h.app⟩
theorem load_good {U:World} {I:Im} (hl:LdOk I):Calls Tryz.prog 16 #[.string (W.strOf (keepI I))] U fun e w'=>∃ q,e=.returned (.tuple #[.pointer (some ⟨q,0,none⟩),.int .i64 0])∧∃ Z,Img w' Z q I∧(∀ k,Z k→U.heap.size≤k)∧Below U.heap.size U w':=by
 have hbl:=body_len hl.ok
 have happ:=hl.ok.app
 have HUN:Hid (Calls Tryz.prog 41 #[.string (W.strOf (keepI I))] U fun e w'=>e=.returned (.tuple #[.string (W.strOf (bodyI I)),.int .i64 0])∧w'=U):=by
  have:=W.punseal_any (keepI I) U (by unfold keepI;rw [W.sealL_length];omega)
  unfold keepI at this ⊢
  rw [if_neg (by rw [W.sealL_length];omega),W.seal_four,W.seal_drop,if_neg (by simp)] at this
  exact this
 have HNW:=hid (new_any U)
 have HRD:=hid (fun V=>pread_any (bodyI I) V (by unfold maxLen;omega))
 have HBY:Hid (bodyI I=W.intL I.applied++(W.intL (I.brs.length:Int)++(brB I.brs++(W.intL (I.tops.length:Int)++(tpB I.tops++(W.intL (I.parts.length:Int)++(ptB I.parts++(lstB I.eps++[])))))))):=by
  show _=_
  unfold bodyI
  simp [List.append_assoc]
 have HL:=hid hl
 have haI:I64 I.applied:=by unfold I64;omega
 generalize W.strOf (keepI I)=ks at *
 clear hl
 go_enter Tryz.func16,Tryz.ntmps16
 go_wp2_with fail
 refine HUN.out.mono ?_
 rintro e U0 ⟨rfl,rfl⟩
 clear HUN
 go_wp2_with fail
 refine HNW.out.mono ?_
 rintro e U1 ⟨rfl,hi1,hb1⟩
 have H1:=hid (And.intro hi1 hb1)
 clear hi1 hb1 HNW
 go_wp2_with fail
 refine (HRD.out U1).mono ?_
 rintro e U2 ⟨rfl,hp2,hb2⟩
 have HS2:Hid (LS U0 U2 (fun k=>k=U0.heap.size∨k=U0.heap.size+1) (U0.heap.size+1) U1.heap.size Im.new (bodyI I)):=by
  have e1:=H1.out.1.lt (U0.heap.size+1) (.inr rfl)
  exact ⟨⟨H1.out.1.under hb2,fun k hk=>⟨by omega,by omega⟩⟩,hp2,by omega,H1.out.2.trans (hb2.mono H1.out.2.size)⟩
 clear hp2 hb2 H1 HRD
 rw [HBY.out] at HS2
 generalize U0.heap.size+1=q at *
 generalize U1.heap.size=x at *
 go_wp2_with fail
 refine (HS2.out.int haI).mono ?_
 rintro e U3 ⟨rfl,ho⟩
 have h3:=ho.1
 obtain ⟨⟨⟨L,b,vt,vp,ve,ps,h1,hz1,hz2,hz3⟩,h2⟩,h4,h5,h6⟩:=id h3
 have c0:=h1.c0
 have f0:=h1.fz 0
 have HI3:Hid (LE U0 (U3.setCell ⟨q,0,none⟩ (.int .i64 I.applied)) q x (wBr ⟨I.applied,[],[],[],[]⟩ []) (W.intL (I.brs.length:Int)++(brB I.brs++(W.intL (I.tops.length:Int)++(tpB I.tops++(W.intL (I.parts.length:Int)++(ptB I.parts++(lstB I.eps++[])))))))):=by
  have hqx:q≠x:=(h2 q (hz1 q (.inl rfl))).2
  have hqw:U0.heap.size≤q:=(h2 q (hz1 q (.inl rfl))).1
  exact ⟨_,⟨⟨L,b,vt,vp,ve,ps,h1.withA I.applied (ok0 HL.out.ok),hz1,hz2,fun k hk=>by simpa using hz3 k hk⟩,h2⟩,h4.kept (Below.heap_setCell _ _ _ _ (fun e=>hqx e.symm)),h5,h6.setCell hqw _⟩
 have HCC:Hid ((U3.setCell ⟨q,0,none⟩ (.int .i64 I.applied)).cell? ⟨q,0,none⟩=some (.int .i64 I.applied)):=(h1.withA I.applied (ok0 HL.out.ok)).c0
 clear ho h3 h1 h2 h4 h5 h6 hz1 hz2 hz3 HS2
 go_upto_region 6 with fail
 generalize U3.setCell ⟨q,0,none⟩ (.int .i64 I.applied)=U4 at *
 have c0':=HCC.out
 have hge:0≤I.applied:=happ.1
 clear c0 f0
 have HC1:=hid (HI3.out.choose_spec)
 go_wp2_with fail
 refine (readBrs_any HC1.out HL.out.ok.keys HL.out.ok.brs).mono ?_
 rintro e U5 ⟨rfl,h5⟩
 have H5:Hid (LE U0 U5 q x (wTp ⟨I.applied,I.brs,[],[],[]⟩ []) (W.intL (I.tops.length:Int)++(tpB I.tops++(W.intL (I.parts.length:Int)++(ptB I.parts++(lstB I.eps++[])))))):=⟨_,h5⟩
 clear h5 HC1 HI3 c0' HCC
 go_wp2_with fail
 refine (readTops_any H5.out HL.out.tp (ok2 HL.out.ok)).mono ?_
 rintro e U6 ⟨rfl,h6⟩
 have H6:Hid (LE U0 U6 q x (wPt ⟨I.applied,I.brs,I.tops,[],[]⟩ []) (W.intL (I.parts.length:Int)++(ptB I.parts++(lstB I.eps++[])))):=h6
 clear h6 H5
 go_wp2_with fail
 refine (readParts_any H6.out HL.out.nx (ok3 HL.out.ok)).mono ?_
 rintro e U7 ⟨rfl,h7⟩
 have H7:Hid (LE U0 U7 q x (wEp ⟨I.applied,I.brs,I.tops,I.parts,[]⟩ []) (lstB I.eps++[])):=h7
 clear h7 H6
 go_wp2_with fail
 refine (readEps_any H7.out HL.out.ok).mono ?_
 rintro e U8 ⟨rfl,h8⟩
 have H8:Hid (LE U0 U8 q x I []):=h8
 clear h8 H7
 go_wp2_with fail
 refine (H8.out.choose_spec.done).mono ?_
 rintro e U9 ⟨rfl,rfl⟩
 go_wp2_with fail
 go_ret2
 obtain ⟨Z,⟨z1,z2⟩,z3,z4,z5⟩:=H8.out
 exact ⟨q,rfl,Z,z1,fun k hk=>(z2 k hk).1,z5⟩
end Go.Proofs.YtcffomhcmilcpaaGreat
namespace Go.Proofs.YtcffomhcmilcpaaGreat
def TN (I:Im):Prop:=TpOk I.tops∧nxT I.tops=(I.parts.length:Int)+1
theorem TN.new:TN Im.new:=⟨⟨fun t ht=>by simp [Im.new] at ht,fun k h=>by simp [Im.new] at h,fun k h=>by simp [Im.new] at h⟩,by simp [Im.new,nxT]⟩
theorem tn_same {I J:Im} (h:TN I) (ht:J.tops=I.tops) (hp:J.parts.length=I.parts.length):TN J:=by
 unfold TN
 rw [ht,hp]
 exact h
theorem tpok_push {ts:List Tp} (h:TpOk ts) {t:Tp} (h1:nameB t.name=true) (h2:hasT ts t.name=false) (h3:t.first=nxT ts):TpOk (ts++[t]):=by
 have old:∀ (k:Nat) (hk:k<(ts++[t]).length),k<ts.length∨k=ts.length:=fun k hk=>by simp at hk;omega
 refine ⟨fun x hx=>?_,fun k hk=>?_,fun k hk=>?_⟩
 ·rcases List.mem_append.1 hx with hx | hx
  ·exact h.name x hx
  ·simp at hx;subst hx;exact h1
 ·rcases old k hk with e | e
  ·rw [List.take_append_of_le_length (by omega),List.getElem_append_left e]
   exact h.apart k e
  ·subst e
   simp [h2]
 ·rcases old k hk with e | e
  ·rw [List.take_append_of_le_length (by omega),List.getElem_append_left e]
   exact h.chain k e
  ·subst e
   simp [h3]
theorem nx_push (ts:List Tp) (t:Tp):nxT (ts++[t])=t.first+t.count:=by unfold nxT;simp
theorem tn_apply {I:Im} (h:TN I) (r:Rc):TN (applyI I r).1:=by
 have h0:TN (nextI I):=tn_same h rfl rfl
 unfold applyI
 generalize nextI I=K at h0 ⊢
 unfold doI
 split
 ·unfold registerI
  split
  ·exact h0
  ·split
   ·exact h0
   ·refine tn_same h0 ?_ ?_
    ·show (if _ then putOffI K r.a else K).tops=_
     split <;> rfl
    ·show (if _ then putOffI K r.a else K).parts.length=_
     split
     ·simp [putOffI]
     ·rfl
 ·split
  ·unfold fenceI
   split
   ·exact h0
   ·exact tn_same h0 rfl (by simp [putOffI])
  ·split
   ·unfold unfenceI
    split
    ·exact h0
    ·exact tn_same h0 rfl (by simp)
   ·split
    ·unfold topicI
     split
     ·exact h0
     ·rename_i hc
      split
      ·exact h0
      ·rename_i ht
       split
       ·exact h0
       ·simp only [Bool.or_eq_true,Bool.not_eq_true',not_or,Bool.not_eq_false] at hc
        have ha:=upB_iff.1 hc.1.1.2
        refine ⟨tpok_push h0.1 hc.1.1.1 (by simpa using ht) h0.2.symm,?_⟩
        show nxT (K.tops++[_])=((K.parts++_).length:Int)+1
        rw [nx_push,List.length_append,moreP_len]
        push_cast
        omega
    ·split
     ·unfold turnI
      split
      ·exact h0
      ·refine tn_same h0 rfl ?_
       show (takeI _ _).length=_
       unfold takeI
       split <;> simp
     ·split
      ·unfold pidI
       split
       ·exact h0
       ·split
        ·exact h0
        ·split
         ·split <;> exact h0
         ·split <;> exact h0
      ·exact h0
end Go.Proofs.YtcffomhcmilcpaaGreat
