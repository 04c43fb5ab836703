/- The document: Register of a broker that is new,ahead of another. -/
import Derived.Test.YtcffomhcmilcpaaGreatC30
import Derived.Deep.CutRange
import Derived.Deep.CutBlock
set_option maxRecDepth 100000
set_option maxHeartbeats 20000000
set_option linter.unusedVariables false
set_option linter.unusedSimpArgs false
namespace Go.Proofs.YtcffomhcmilcpaaGreat
open Go.RowKit Go.Maps
theorem row_low {w:World} {B:Nat} {T:TypeId} {m n:Nat} {v:Value} {vs:List Value} (h:w.ownsRow B T m v n vs):w.ownsRow 0 T m v n vs∧(∀ k,v.ownBlock=some k→B≤k∧k<w.heap.size):=by
 refine ⟨?_,fun k hk=>?_⟩
 ·obtain ⟨h1,h2 | ⟨g,cap,cur,e,hB,hg,r⟩⟩:=h
  ·exact ⟨h1,.inl h2⟩
  ·exact ⟨h1,.inr ⟨g,cap,cur,e,Nat.zero_le _,hg,r⟩⟩
 ·obtain ⟨h1,⟨e,_⟩ | ⟨g,cap,cur,e,hB,hg,r⟩⟩:=h
  ·subst e;cases hk
  ·subst e;cases hk;exact ⟨hB,(Array.getElem?_eq_some_iff.1 hg).1⟩
theorem slice_of {w:World} {B:Nat} {T:TypeId} {m n:Nat} {v:Value} {vs:List Value} (h:w.ownsRow B T m v n vs):∃ o c,v=.slice o n c:=by
 obtain ⟨h1,⟨e,h0⟩ | ⟨g,cap,cur,e,_⟩⟩:=h
 ·exact ⟨none,0,by rw [e,h0]⟩
 ·exact ⟨_,_,e⟩
theorem DC.newB {w w4:World} {L Z:Nat→Prop} {q:Nat} {vb vt vp ve v4:Value} {ps:List (Value × Pt)} {I:Im} {l2:BM} {n:Nat} (h:DC w L q vb vt vp ve ps I) (hz4:∀ k,OwnD q vb vt vp ve k→Z k) (hz5:∀ k,L k→Z k) (hb:Below w.heap.size w w4) (hr:w4.ownsRow w.heap.size 72 3 v4 n (flatB l2)) (hn:n=l2.length) (hok:ImOk { I with brs:=l2 }):DAfter Z w (w4.setCell ⟨q,1,none⟩ v4) q { I with brs:=l2 }∧w4.cell? ⟨q,1,none⟩=some vb∧w4.frozen? ⟨q,1,none⟩=false:=by
 have hql:q<w.heap.size:=h.lt (.inl rfl)
 have hqc:=(hb.block q hql).trans h.cells
 obtain ⟨r1,r2⟩:=row_low hr
 have hoth:∀ k,k<w.heap.size→k≠q→(w4.setCell ⟨q,1,none⟩ v4).heap[k]?=w.heap[k]?:=fun k hk hkq=>by
  rw [Below.heap_setCell _ _ _ _ hkq];exact hb.block k hk
 have h3:=row_kept r1 (w1:=w4.setCell ⟨q,1,none⟩ v4) (fun k hk=>Below.heap_setCell _ _ _ _ (fun e=>by have:=(r2 k hk).1;have e':k=q:=e;omega))
 subst hn
 have hD:=h.swapB (w3:=w4.setCell ⟨q,1,none⟩ v4) (v2:=v4) (l2:=l2) (by simp;exact hb.size) (fun k hk hkq _=>hoth k hk hkq) (set_box hqc) h3 (fun k hk=>.inr (r2 k hk).1) hok
 refine ⟨hD.after (fun k hk=>?_) (fun k hk=>.inl (hz5 k hk)) ⟨hb.os,hb.tape,hb.output,by simp;exact hb.size,fun k hk hS=>hoth k hk (fun e=>hS (hz4 k (.inl e)))⟩,cell_blk hqc 1 _ rfl,frz_blk hqc 1⟩
 rcases hk with e | e | e | e | e
 ·exact .inl (hz4 k (.inl e))
 ·exact .inr (r2 k e).1
 ·exact .inl (hz4 k (.inr (.inr (.inl e))))
 ·exact .inl (hz4 k (.inr (.inr (.inr (.inl e)))))
 ·exact .inl (hz4 k (.inr (.inr (.inr (.inr e)))))
theorem rregister_mid {w:World} {Z:Nat→Prop} {q:Nat} {I:Im} (hi:DImg w Z q I) (r:Rc) (k1:1≤r.a) (k2:r.a≤7) (k3:1≤r.b) (k4:r.b≤1000000000) (hgb:getB I.brs r.a=none) (hlate:∃ p∈I.brs,r.a<p.1):Calls Tryz.prog 33 #[.pointer (some ⟨q,0,none⟩),.int .i64 r.a,.int .i64 r.b] w fun e w'=>e=.returned (.int .i64 (registerI I r).2.2)∧DAfter Z w w' q (registerI I r).1:=by
 obtain ⟨L,vb,vt,vp,ve,ps,h,hz4,hz5,hz6⟩:=hi
 have hv:valB I.brs r.a=zeroB:=by unfold valB;rw [hgb];rfl
 have HR:Hid (registerI I r=({ I with brs:=putB I.brs r.a ⟨r.b,false⟩ },r.a,0)):=by
  show _=_
  unfold registerI
  rw [if_neg (by simp only [upB,Bool.or_eq_true,Bool.not_eq_true',Bool.and_eq_false_iff,decide_eq_false_iff_not];omega),hgb,hv]
  rfl
 rw [HR.out]
 clear HR hv
 have H75:=hid (rbroker_any h r.a (by unfold I64;omega))
 rw [posB_none hgb] at H75
 generalize r.a=a at *
 generalize r.b=rb at *
 clear r
 obtain ⟨ob,cb,rfl,_,_,_,hatb⟩:=row_shape h.brs
 have hl7:=keys_few h.ok.keys (fun p hp=>(h.ok.brs p hp).1)
 have d1:=h.c1
 have HI:=hid h
 have HZ:=hid (And.intro hz4 hz5)
 have HG:=hid hgb
 have HLT:=hid hlate
 clear hlate
 have k1':¬ a<1:=by omega
 have k2':¬ (7:Int)<a:=by omega
 have k3':¬ rb<1:=by omega
 have k4':¬ (1000000000:Int)<rb:=by omega
 clear h hz4 hz5 hz6 hgb
 go_enter Tryz.func33,Tryz.ntmps33
 go_wp2_with fail
 refine H75.out.mono ?_
 rintro e w1 ⟨rfl,rfl⟩
 go_wp2_with fail
 go_loopg [7] I.brs.length (fun kx s wr=>∃ k:Nat,k≤I.brs.length∧I.brs.length - k≤kx∧s=.int .i64 (k:Int)∧wr=w∧Hid (∀ i p,i<k→I.brs[i]?=some p→p.1<a))
 case atStart=>exact ⟨0,Nat.zero_le _,by omega,rfl,rfl,fun i p hi=>by omega⟩
 case round =>
  obtain ⟨k,hk,hkx,rfl,rfl,HK⟩:=hrel
  by_cases hlt:k<I.brs.length
  ·obtain ⟨g,rfl⟩:=hatb (by omega)
   have hxx:I.brs[k]?=some I.brs[k]:=List.getElem?_eq_getElem hlt
   obtain ⟨b0,b1,b2⟩:=HI.out.br k _ hxx
   have hlt':(k:Int)<(I.brs.length:Int):=by omega
   have HX:=hid hxx
   clear hxx b1 b2
   generalize I.brs[k]=y at *
   by_cases hy:y.1<a
   ·have HK2:Hid (∀ i p,i<k+1→I.brs[i]?=some p→p.1<a):=fun i p hi hp=>by
     rcases Nat.lt_or_ge i k with h2 | h2
     ·exact HK.out i p h2 hp
     ·have e:i=k:=by omega
      subst e
      rw [HX.out] at hp
      cases hp
      exact hy
    generalize y.1=y1 at *
    go_wp2_with fail
    go_roundg (I.brs.length - (k+1))
    case measure=>omega
    case rel=>exact ⟨k+1,by omega,Nat.le_refl _,by go_num,rfl,HK2.out⟩
   ·have HPN:Hid (putB I.brs a ⟨rb,false⟩=I.brs.take k++(a,⟨rb,false⟩) :: I.brs.drop k):=putB_new HG.out k HK.out (fun p hp=>by rw [HX.out] at hp;cases hp;exact hy)
    generalize y.1=y1 at *
    obtain ⟨i0,hi0,hz0,hz1,hz2⟩:=info72
    have hql:q<wr.heap.size:=HI.out.lt (.inl rfl)
    have hgl:g<wr.heap.size:=HI.out.lt (.inr (.inl rfl))
    have nq:¬ q=wr.heap.size:=by omega
    have ng:¬ g=wr.heap.size:=by omega
    have HE:Hid ((wr.alloc (.cells #[] 72)).ownsRow wr.heap.size 72 3 (.slice (some ⟨wr.heap.size,0,none⟩) 0 0) 0 []):=⟨by simp,.inr ⟨wr.heap.size,0,#[],rfl,Nat.le_refl _,heap_alloc_new _ _,Nat.le_refl _,by unfold maxLen;omega,rfl,rfl⟩⟩
    have HN1:Hid (∀ j u,(flatB (I.brs.take k))[j]?=some u→(wr.alloc (.cells #[] 72)).cell? ((⟨g,0,none⟩:Addr).add j)=some u):=fun j u hu=>by
     rw [flatB_take,List.getElem?_take] at hu
     split at hu
     ·have:=World.ownsRow.cells HI.out.brs (g:=g) rfl j u hu
      rw [add_at] at this ⊢
      exact kept_cell ((Below.refl _ wr).alloc (Nat.le_refl _) _) this
     ·cases hu
    have HL1:Hid ((flatB (I.brs.take k)).length=k*3):=by show _=_;rw [flatB_length,List.length_take,Nat.min_eq_left hk]
    have hkc:k≤cb:=by omega
    have hkc':(k:Int)≤(cb:Int):=by omega
    go_upto_region 8 with fail
    have HB1:Hid (Below wr.heap.size wr (wr.alloc (.cells #[] 72))):=(Below.refl _ wr).alloc (Nat.le_refl _) _
    go_upto_region 9 with (at_builtin;go_loud (refine wpList_append_own_at _ rfl _ _ 28 rfl wr.heap.size 72 i0 _ 3 24 Tryz.underlying28 hi0 hz0 hz1 hz2 rfl (by decide) _ 0 _ rfl HE.out ⟨g,0,none⟩ k cb (flatB (I.brs.take k)) rfl HL1.out HN1.out (flatB_one _) (by unfold maxLen;omega) (by omega) (by simp) ?_);intro v2 w2 hown2 hg2 _ hat2;obtain ⟨o2,c2,rfl⟩:=slice_of hown2;have HO2:=hid hown2;have HB2:Hid (Below wr.heap.size wr w2):=hid (HB1.out.grown hg2 HB1.out.size (fun j hj=>((row_low HE.out).2 j hj).1));clear HE hg2 hat2 hown2)
    have d2:=kept_cell HB2.out d1
    have hs2:=HB2.out.size
    simp only [Nat.zero_add,List.nil_append] at HO2 ⊢
    have HX2:Hid ((w2.alloc (.cells #[.int .i64 a,.int .i64 rb,.bool false] 72)).ownsRow wr.heap.size 72 3 (.slice o2 k c2) k (flatB (I.brs.take k))):=HO2.out.alloc _
    have HB3:Hid (Below wr.heap.size wr (w2.alloc (.cells #[.int .i64 a,.int .i64 rb,.bool false] 72))):=HB2.out.alloc hs2 _
    have HN2:Hid (∀ j u,([.int .i64 a,.int .i64 rb,.bool false]:List Value)[j]?=some u→(w2.alloc (.cells #[.int .i64 a,.int .i64 rb,.bool false] 72)).cell? ((⟨w2.heap.size,0,none⟩:Addr).add j)=some u):=fun j u hu=>by
     rw [add_at,Nat.zero_add]
     exact cell_blk (heap_alloc_new _ _) j _ (by simpa using hu)
    have HO1:Hid (∀ u∈([.int .i64 a,.int .i64 rb,.bool false]:List Value),u.oneCell'=true):=fun u hu=>by simp at hu;rcases hu with rfl | rfl | rfl <;> rfl
    go_upto_region 10 with (at_builtin;go_loud (refine wpList_append_own_at _ rfl _ _ 28 rfl wr.heap.size 72 i0 _ 3 24 Tryz.underlying28 hi0 hz0 hz1 hz2 rfl (by decide) _ k _ rfl HX2.out ⟨w2.heap.size,0,none⟩ 1 1 [.int .i64 a,.int .i64 rb,.bool false] rfl rfl HN2.out HO1.out (by unfold maxLen;omega) (by omega) (by simp;omega) ?_);intro v3 w3 hown3 hg3 _ hat3;obtain ⟨o3,c3,rfl⟩:=slice_of hown3;have HO3:=hid hown3;have HB4:Hid (Below wr.heap.size wr w3):=hid (HB3.out.grown hg3 HB3.out.size (fun j hj=>((row_low HX2.out).2 j hj).1));clear HX2 hg3 hat3 hown3)
    have d3:=kept_cell HB4.out d1
    have hs3:=HB4.out.size
    have HOK:Hid (ImOk { I with brs:=putB I.brs a ⟨rb,false⟩ }):=HI.out.ok.put ⟨k1,k2⟩ ⟨k3,k4⟩
    have HL3:Hid ((flatB (I.brs.drop k)).length=(I.brs.length - k)*3):=by show _=_;rw [flatB_length,List.length_drop]
    have HN3:Hid (∀ j u,(flatB (I.brs.drop k))[j]?=some u→w3.cell? ((⟨g,k*3,none⟩:Addr).add j)=some u):=fun j u hu=>by
     rw [flatB_drop,List.getElem?_drop] at hu
     have:=World.ownsRow.cells HI.out.brs (g:=g) rfl (k*3+j) u hu
     rw [add_at,Nat.zero_add] at this
     rw [add_at]
     exact kept_cell HB4.out this
    have HAFT:Hid (∀ v4 w4,w4.ownsRow wr.heap.size 72 3 v4 (k+1+(I.brs.length - k)) (flatB (I.brs.take k)++[.int .i64 a,.int .i64 rb,.bool false]++flatB (I.brs.drop k))→Below wr.heap.size wr w4→DAfter Z wr (w4.setCell ⟨q,1,none⟩ v4) q { I with brs:=putB I.brs a ⟨rb,false⟩ }∧w4.cell? ⟨q,1,none⟩=some (.slice (some ⟨g,0,none⟩) I.brs.length cb)∧w4.frozen? ⟨q,1,none⟩=false):=fun v4 w4 hr hb=>by
     have e:flatB (I.brs.take k)++[.int .i64 a,.int .i64 rb,.bool false]++flatB (I.brs.drop k)=flatB (putB I.brs a ⟨rb,false⟩):=by
      rw [HPN.out,flatB_append]
      simp [flatB]
     rw [e] at hr
     exact HI.out.newB HZ.out.1 HZ.out.2 hb hr (by rw [HPN.out];simp;omega) HOK.out
    clear HPN HOK HN2 HO1 HB3 d2 HO2
    go_wp2_with (at_builtin;go_loud (refine wpList_append_own_at _ rfl _ _ 28 rfl wr.heap.size 72 i0 _ 3 24 Tryz.underlying28 hi0 hz0 hz1 hz2 rfl (by decide) _ (k+1) _ rfl HO3.out ⟨g,k*3,none⟩ (I.brs.length - k) (cb - k) (flatB (I.brs.drop k)) rfl HL3.out HN3.out (flatB_one _) (by unfold maxLen;omega) (by omega) hs3 ?_);intro v4 w4 hown4 hg4 _ hat4;obtain ⟨o4,c4,rfl⟩:=slice_of hown4;obtain ⟨j1,j2,j3⟩:=HAFT.out _ w4 hown4 (HB4.out.grown hg4 hs3 (fun j hj=>((row_low HO3.out).2 j hj).1));have HJ1:=hid j1;clear hg4 hat4 hown4 j1)
    go_ret
    exact ⟨rfl,HJ1.out⟩
  ·exfalso
   obtain ⟨p,hp,hpa⟩:=HLT.out
   obtain ⟨i,hi2,e⟩:=List.getElem_of_mem hp
   have:=HK.out i p (by omega) (by rw [List.getElem?_eq_getElem hi2,e])
   omega
theorem row_twoB {w:World} {B e s n:Nat} {v:Value} {xs:List Value} (h:w.ownsRow B e s v n xs):(v=.slice none 0 0∧n=0)∨∃ g c,v=.slice (some ⟨g,0,none⟩) n c∧n≤c∧c≤maxLen:=by
 obtain ⟨g1,⟨g2,g3⟩ | ⟨g,c,cur,e2,h2,h3,h4,h5,_⟩⟩:=h
 ·exact .inl ⟨g2,g3⟩
 ·exact .inr ⟨g,c,e2,h4,h5⟩
theorem rregister_last {w:World} {Z:Nat→Prop} {q:Nat} {I:Im} (hi:DImg w Z q I) (r:Rc) (k1:1≤r.a) (k2:r.a≤7) (k3:1≤r.b) (k4:r.b≤1000000000) (hgb:getB I.brs r.a=none) (hlate:∀ p∈I.brs,p.1<r.a):Calls Tryz.prog 33 #[.pointer (some ⟨q,0,none⟩),.int .i64 r.a,.int .i64 r.b] w fun e w'=>e=.returned (.int .i64 (registerI I r).2.2)∧DAfter Z w w' q (registerI I r).1:=by
 obtain ⟨L,vb,vt,vp,ve,ps,h,hz4,hz5,hz6⟩:=hi
 have hv:valB I.brs r.a=zeroB:=by unfold valB;rw [hgb];rfl
 have HR:Hid (registerI I r=({ I with brs:=putB I.brs r.a ⟨r.b,false⟩ },r.a,0)):=by
  show _=_
  unfold registerI
  rw [if_neg (by simp only [upB,Bool.or_eq_true,Bool.not_eq_true',Bool.and_eq_false_iff,decide_eq_false_iff_not];omega),hgb,hv]
  rfl
 rw [HR.out]
 clear HR hv
 have H75:=hid (rbroker_any h r.a (by unfold I64;omega))
 rw [posB_none hgb] at H75
 generalize r.a=a at *
 generalize r.b=rb at *
 clear r
 obtain ⟨ob,cb,rfl,_,_,_,hatb⟩:=row_shape h.brs
 have hl7:=keys_few h.ok.keys (fun p hp=>(h.ok.brs p hp).1)
 have d1:=h.c1
 have HI:=hid h
 have HZ:=hid (And.intro hz4 hz5)
 have HG:=hid hgb
 have HLT:=hid hlate
 clear hlate
 have k1':¬ a<1:=by omega
 have k2':¬ (7:Int)<a:=by omega
 have k3':¬ rb<1:=by omega
 have k4':¬ (1000000000:Int)<rb:=by omega
 clear h hz4 hz5 hz6 hgb
 go_enter Tryz.func33,Tryz.ntmps33
 go_wp2_with fail
 refine H75.out.mono ?_
 rintro e w1 ⟨rfl,rfl⟩
 go_wp2_with fail
 go_loopg [7] I.brs.length (fun kx s wr=>∃ k:Nat,k≤I.brs.length∧I.brs.length - k≤kx∧s=.int .i64 (k:Int)∧wr=w∧Hid (∀ i p,i<k→I.brs[i]?=some p→p.1<a))
 case atStart=>exact ⟨0,Nat.zero_le _,by omega,rfl,rfl,fun i p hi=>by omega⟩
 case round =>
  obtain ⟨k,hk,hkx,rfl,rfl,HK⟩:=hrel
  by_cases hlt:k<I.brs.length
  ·obtain ⟨g,rfl⟩:=hatb (by omega)
   have hxx:I.brs[k]?=some I.brs[k]:=List.getElem?_eq_getElem hlt
   obtain ⟨b0,b1,b2⟩:=HI.out.br k _ hxx
   have hlt':(k:Int)<(I.brs.length:Int):=by omega
   have HX:=hid hxx
   clear hxx b1 b2
   generalize I.brs[k]=y at *
   by_cases hy:y.1<a
   ·have HK2:Hid (∀ i p,i<k+1→I.brs[i]?=some p→p.1<a):=fun i p hi hp=>by
     rcases Nat.lt_or_ge i k with h2 | h2
     ·exact HK.out i p h2 hp
     ·have e:i=k:=by omega
      subst e
      rw [HX.out] at hp
      cases hp
      exact hy
    generalize y.1=y1 at *
    go_wp2_with fail
    go_roundg (I.brs.length - (k+1))
    case measure=>omega
    case rel=>exact ⟨k+1,by omega,Nat.le_refl _,by go_num,rfl,HK2.out⟩
   ·exfalso
    exact hy (HLT.out y (List.mem_of_getElem? HX.out))
  ·have HPN:Hid (putB I.brs a ⟨rb,false⟩=I.brs++[(a,⟨rb,false⟩)]):=by
    have h9:=putB_new HG.out k HK.out (b:=⟨rb,false⟩) (fun p hp=>by rw [List.getElem?_eq_none (by omega)] at hp;cases hp)
    rw [List.take_of_length_le (by omega),List.drop_of_length_le (by omega)] at h9
    exact h9
   have hke:I.brs.length=k:=by omega
   have hlt':¬ (k:Int)<(I.brs.length:Int):=by omega
   obtain ⟨i0,hi0,hz0,hz1,hz2⟩:=info72
   have hql:q<wr.heap.size:=HI.out.lt (.inl rfl)
   have nq:¬ q=wr.heap.size:=by omega
   have hk7:k≤7:=by omega
   have HE:Hid ((wr.alloc (.cells #[] 72)).ownsRow wr.heap.size 72 3 (.slice (some ⟨wr.heap.size,0,none⟩) 0 0) 0 []):=⟨by simp,.inr ⟨wr.heap.size,0,#[],rfl,Nat.le_refl _,heap_alloc_new _ _,Nat.le_refl _,by unfold maxLen;omega,rfl,rfl⟩⟩
   have HB1:Hid (Below wr.heap.size wr (wr.alloc (.cells #[] 72))):=(Below.refl _ wr).alloc (Nat.le_refl _) _
   have d1n:=kept_cell HB1.out d1
   have HROW:=hid HI.out.brs
   have HOK:Hid (ImOk { I with brs:=putB I.brs a ⟨rb,false⟩ }):=HI.out.ok.put ⟨k1,k2⟩ ⟨k3,k4⟩
   have HL1:Hid ((flatB I.brs).length=k*3):=by show _=_;rw [flatB_length,hke]
   have HAFT:Hid (∀ v4 w4,w4.ownsRow wr.heap.size 72 3 v4 (k+1) (flatB I.brs++[.int .i64 a,.int .i64 rb,.bool false])→Below wr.heap.size wr w4→DAfter Z wr (w4.setCell ⟨q,1,none⟩ v4) q { I with brs:=putB I.brs a ⟨rb,false⟩ }∧w4.frozen? ⟨q,1,none⟩=false):=fun v4 w4 hr hb=>by
    have e:flatB I.brs++[.int .i64 a,.int .i64 rb,.bool false]=flatB (putB I.brs a ⟨rb,false⟩):=by
     rw [HPN.out,flatB_append]
     simp [flatB]
    rw [e] at hr
    obtain ⟨g1,g2,g3⟩:=HI.out.newB HZ.out.1 HZ.out.2 hb hr (by rw [HPN.out];simp;omega) HOK.out
    exact ⟨g1,g3⟩
   generalize hL:I.brs.length=L at *
   clear hL
   subst hke
   clear hlt
   go_upto_region 8 with fail
   go_cut [7,8] from 49 to 57 (fun s7 s8 V=>∃ (o2:Option Addr) (c2:Nat),s7=.int .i64 (L:Int)∧s8=.slice o2 L c2∧Hid (V.ownsRow wr.heap.size 72 3 (.slice o2 L c2) L (flatB I.brs)∧Below wr.heap.size wr V))
   case first =>
    rcases row_twoB HROW.out with ⟨e1,e2⟩ | ⟨g,c,e1,e2,e3⟩
    ·simp only [Value.slice.injEq] at e1
     obtain ⟨ha,_,hc⟩:=e1
     subst ha hc e2
     have hfl:flatB I.brs=[]:=List.eq_nil_of_length_eq_zero (by rw [HL1.out])
     have HFL:=hid hfl
     clear hfl
     go_wp2_with (at_builtin;go_loud (refine wpList_append_own_none rfl _ _ 28 rfl wr.heap.size 72 i0 3 Tryz.underlying28 hi0 _ 0 [] rfl HE.out rfl ?_))
     go_meet
     case rel=>exact ⟨_,_,by simp,rfl,by rw [HFL.out];exact HE.out,HB1.out⟩
    ·simp only [Value.slice.injEq] at e1
     obtain ⟨ha,_,hc⟩:=e1
     subst ha hc
     have hcb:(L:Int)≤(cb:Int):=by omega
     have hL0:(0:Int)≤(L:Int):=by omega
     have HN1:Hid (∀ j u,(flatB I.brs)[j]?=some u→(wr.alloc (.cells #[] 72)).cell? ((⟨g,0,none⟩:Addr).add j)=some u):=fun j u hu=>by
      have:=World.ownsRow.cells HROW.out (g:=g) rfl j u hu
      rw [add_at] at this ⊢
      exact kept_cell ((Below.refl _ wr).alloc (Nat.le_refl _) _) this
     go_wp2_with (at_builtin;go_loud (refine wpList_append_own_at _ rfl _ _ 28 rfl wr.heap.size 72 i0 _ 3 24 Tryz.underlying28 hi0 hz0 hz1 hz2 rfl (by decide) _ 0 _ rfl HE.out ⟨g,0,none⟩ L cb (flatB I.brs) rfl HL1.out HN1.out (flatB_one _) (by unfold maxLen;omega) (by omega) (by simp) ?_);intro v2 w2 hown2 hg2 _ hat2;obtain ⟨o2,c2,rfl⟩:=slice_of hown2;have HO2:=hid hown2;have HB2:Hid (Below wr.heap.size wr w2):=hid (HB1.out.grown hg2 HB1.out.size (fun j hj=>((row_low HE.out).2 j hj).1));clear hg2 hat2 hown2)
     go_meet
     case rel=>exact ⟨o2,c2,by simp,by simp,by simpa using HO2.out,HB2.out⟩
   case rest =>
    obtain ⟨o2,c2,rfl,rfl,H2⟩:=hcut
    have hs2:=H2.out.2.size
    have HX2:Hid ((wc.alloc (.cells #[.int .i64 a,.int .i64 rb,.bool false] 72)).ownsRow wr.heap.size 72 3 (.slice o2 L c2) L (flatB I.brs)):=H2.out.1.alloc _
    have HB3:Hid (Below wr.heap.size wr (wc.alloc (.cells #[.int .i64 a,.int .i64 rb,.bool false] 72))):=H2.out.2.alloc hs2 _
    have HN2:Hid (∀ j u,([.int .i64 a,.int .i64 rb,.bool false]:List Value)[j]?=some u→(wc.alloc (.cells #[.int .i64 a,.int .i64 rb,.bool false] 72)).cell? ((⟨wc.heap.size,0,none⟩:Addr).add j)=some u):=fun j u hu=>by
     rw [add_at,Nat.zero_add]
     exact cell_blk (heap_alloc_new _ _) j _ (by simpa using hu)
    have HO1:Hid (∀ u∈([.int .i64 a,.int .i64 rb,.bool false]:List Value),u.oneCell'=true):=fun u hu=>by simp at hu;rcases hu with rfl | rfl | rfl <;> rfl
    have HD1:Hid (∀ V,Below wr.heap.size wr V→V.cell? ⟨q,1,none⟩=some (.slice ob L cb)):=fun V hV=>kept_cell hV d1
    clear d1 d1n
    go_upto_region 10 with (at_builtin;go_loud (refine wpList_append_own_at _ rfl _ _ 28 rfl wr.heap.size 72 i0 _ 3 24 Tryz.underlying28 hi0 hz0 hz1 hz2 rfl (by decide) _ L _ rfl HX2.out ⟨wc.heap.size,0,none⟩ 1 1 [.int .i64 a,.int .i64 rb,.bool false] rfl rfl HN2.out HO1.out (by unfold maxLen;omega) (by omega) (by simp;omega) ?_);intro v3 w3 hown3 hg3 _ hat3;obtain ⟨o3,c3,rfl⟩:=slice_of hown3;have HO3:=hid hown3;have HB4:Hid (Below wr.heap.size wr w3):=hid (HB3.out.grown hg3 HB3.out.size (fun j hj=>((row_low HX2.out).2 j hj).1));clear HX2 hg3 hat3 hown3)
    have d3:=HD1.out w3 HB4.out
    have hs3:=HB4.out.size
    rcases row_twoB HROW.out with ⟨e1,e2⟩ | ⟨g,c,e1,e2,e3⟩
    ·simp only [Value.slice.injEq] at e1
     obtain ⟨ha,_,hc⟩:=e1
     subst ha hc e2
     obtain ⟨j1,j3⟩:=HAFT.out _ w3 HO3.out HB4.out
     have HJ1:=hid j1
     clear j1
     go_wp2_with (at_builtin;go_loud (refine wpList_append_own_none rfl _ _ 28 rfl wr.heap.size 72 i0 3 Tryz.underlying28 hi0 _ _ _ rfl HO3.out rfl ?_))
     go_ret
     exact ⟨rfl,HJ1.out⟩
    ·simp only [Value.slice.injEq] at e1
     obtain ⟨ha,_,hc⟩:=e1
     subst ha hc
     have hL0:(0:Int)≤(L:Int):=by omega
     have HFIN:Hid (∀ v4 w4,w4.ownsRow wr.heap.size 72 3 v4 (L+1+0) (flatB I.brs++[.int .i64 a,.int .i64 rb,.bool false]++[])→w3.grownBy w4 (Value.slice o3 (L+1) c3).ownBlock→DAfter Z wr (w4.setCell ⟨q,1,none⟩ v4) q { I with brs:=putB I.brs a ⟨rb,false⟩ }∧w4.frozen? ⟨q,1,none⟩=false∧w4.cell? ⟨q,1,none⟩=some (.slice (some ⟨g,0,none⟩) L cb)∧∃ o c,v4=.slice o (L+1) c):=fun v4 w4 h1 h2=>by
      have hb:=HB4.out.grown h2 hs3 (fun j hj=>((row_low HO3.out).2 j hj).1)
      rw [Nat.add_zero,List.append_nil] at h1
      obtain ⟨o,c,e⟩:=slice_of h1
      obtain ⟨j1,j3⟩:=HAFT.out _ w4 h1 hb
      exact ⟨j1,j3,HD1.out w4 hb,o,c,e⟩
     by_cases hcap:cb=L
     ·subst hcap
      have HNZ:Hid (∀ j u,([]:List Value)[j]?=some u→w3.cell? ((⟨g,0,none⟩:Addr).add j)=some u):=fun j u hu=>by simp at hu
      go_wp2_with (at_builtin;go_loud (refine wpList_append_own_at _ rfl _ _ 28 rfl wr.heap.size 72 i0 _ 3 24 Tryz.underlying28 hi0 hz0 hz1 hz2 rfl (by decide) _ _ _ rfl HO3.out ⟨g,0,none⟩ 0 0 [] rfl rfl HNZ.out (fun u hu=>by cases hu) (by unfold maxLen;omega) (by omega) hs3 ?_);intro v4 w4 hown4 hg4 _ hat4;obtain ⟨j1,j2,j3,o4,c4,rfl⟩:=HFIN.out _ w4 hown4 hg4;have HJ1:=hid j1;clear hg4 hat4 hown4 j1)
      go_ret
      exact ⟨rfl,HJ1.out⟩
     ·have hcap2:¬ L=cb:=fun e=>hcap e.symm
      have hcap3:L<cb:=by omega
      have hcap4:(L:Int)≤(cb:Int):=by omega
      have HNZ:Hid (∀ j u,([]:List Value)[j]?=some u→w3.cell? ((⟨g,L*3,none⟩:Addr).add j)=some u):=fun j u hu=>by simp at hu
      go_wp2_with (at_builtin;go_loud (refine wpList_append_own_at _ rfl _ _ 28 rfl wr.heap.size 72 i0 _ 3 24 Tryz.underlying28 hi0 hz0 hz1 hz2 rfl (by decide) _ _ _ rfl HO3.out ⟨g,L*3,none⟩ 0 (cb - L) [] rfl rfl HNZ.out (fun u hu=>by cases hu) (by unfold maxLen;omega) (by omega) hs3 ?_);intro v4 w4 hown4 hg4 _ hat4;obtain ⟨j1,j2,j3,o4,c4,rfl⟩:=HFIN.out _ w4 hown4 hg4;have HJ1:=hid j1;clear hg4 hat4 hown4 j1)
      go_ret
      exact ⟨rfl,HJ1.out⟩
end Go.Proofs.YtcffomhcmilcpaaGreat
