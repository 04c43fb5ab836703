/- A copy of an image. -/
import Derived.Test.YtcffomhcmilcpaaGreatC10
import Derived.Shelf.SlMaps.Clone
import Derived.Lib.SliceRun
import Derived.Test.YtcffomhcmilcpaaGreatC30
import Derived.Test.YtcffomhcmilcpaaGreatC42
import Derived.Test.YtcffomhcmilcpaaGreatC9
import Derived.Test.YtcffomhcmilcpaaGreatC7
set_option maxRecDepth 100000
set_option maxHeartbeats 20000000
set_option linter.unusedVariables false
set_option linter.unusedSimpArgs false
namespace Go.Proofs.YtcffomhcmilcpaaGreat
open Go.RowKit Go.Maps
theorem flatT_one (l:List Tp):∀ u∈flatT l,u.oneCell'=true:=by
 induction l with
 | nil=>intro u h;cases h
 | cons x r ih =>
  intro u h
  simp only [flatT,List.mem_append,List.mem_cons,List.not_mem_nil,or_false] at h
  rcases h with (rfl | rfl | rfl) | h
  ·rfl
  ·rfl
  ·rfl
  ·exact ih u h
theorem mclone_any {w:World} {b n:Nat} {D:DataW Value} (h:w.ownsMap Tryz.prog 3 Rh b n D):Calls Tryz.prog 55 #[.map (some b)] w fun e w'=>e=.returned (.map (some w.heap.size))∧w'.ownsMap Tryz.prog 3 Rh w.heap.size n D∧Below w.heap.size w w':=by
 have hlt:=h.lt
 obtain ⟨es,clock,hb,F,hs,hD⟩:=h
 have hq:=fun w=>run_eql_map_nil_sl (P:=Tryz.prog) w 67 _ _ (some b) Tryz.underlying67
 have hc:=run_maps_clone_sl (P:=Tryz.prog) w 67 hb
 have ht:=fun W v=>run_typeAssert_map_sl (P:=Tryz.prog) W 67 20 _ _ v Tryz.underlying67
 have hB:Below w.heap.size w (w.alloc (.map es clock)):=(Below.refl _ w).alloc (Nat.le_refl _) _
 have HO:Hid ((w.alloc (.map es clock)).ownsMap Tryz.prog 3 Rh w.heap.size n D):=⟨es,clock,(MapKept.heap_alloc w _).1,F,hs,hD⟩
 go_enter Tryz.func55,Tryz.ntmps55
 go_wp2
 rw [run_callFunc_extern (f:=101) Tryz.func101 (by kernel_rfl) (by kernel_rfl) (by kernel_rfl) (e:=Extern.MapsClone.clone) (by kernel_rfl),hc]
 simp only [Result.andThen]
 rw [Oper.upon_value]
 go_wp2
 go_ret
 exact ⟨rfl,HO.out,hB⟩
theorem tclone_any {w:World} {v:Value} {l:List Tp} (h:w.ownsRow 0 96 3 v l.length (flatT l)) (hf:l.length≤100):Calls Tryz.prog 56 #[v] w fun e w'=>∃ v',e=.returned v'∧w'.ownsRow w.heap.size 96 3 v' l.length (flatT l)∧Below w.heap.size w w':=by
 obtain ⟨i0,hi0,hz0,hz1,hz2⟩:=info96
 have HR:=hid h
 obtain ⟨oa,cap,rfl,hc1,hc2,hnn,hat⟩:=row_shape h
 have HROW:Hid ((w.alloc (.cells #[] 96)).ownsRow w.heap.size 96 3 (.slice (some ⟨w.heap.size,0,none⟩) 0 0) 0 []):=⟨rfl,.inr ⟨w.heap.size,0,#[],rfl,Nat.le_refl _,heap_alloc_new _ _,Nat.le_refl _,Nat.zero_le _,rfl,rfl⟩⟩
 have hb0:Below w.heap.size w (w.alloc (.cells #[] 96)):=(Below.refl _ _).alloc (Nat.le_refl _) _
 have HB0:=hid hb0
 have HBR:=hid (Below.refl w.heap.size w)
 cases oa with
 | none =>
  have h0:=hnn rfl
  subst h0
  have hl:l=[]:=List.eq_nil_of_length_eq_zero (by omega)
  subst hl
  clear h hat hnn hc1 hc2 hb0 HR
  have hnil:=fun W a n c n' c'=>Lib.run_eql_slice_nil (P:=Tryz.prog) W 68 _ a n c n' c' Tryz.underlying68
  go_enter Tryz.func56,Tryz.ntmps56
  go_wp2
  go_ret
  exact ⟨_,rfl,World.ownsRow_nil _ _ _ _,HBR.out⟩
 | some ad =>
  have hg:∃ g,ad=⟨g,0,none⟩:=by
   rcases h.2 with ⟨e,_⟩ | ⟨g,_,_,e,_⟩
   ·cases e
   ·cases e;exact ⟨g,rfl⟩
  obtain ⟨g,rfl⟩:=hg
  have HNW:Hid (∀ j u,(flatT l)[j]?=some u→(w.alloc (.cells #[] 96)).cell? ((⟨g,0,none⟩:Addr).add j)=some u):=World.ownsRow.cells (row_kept h (fun k hk=>hb0.block k (row_lt h hk))) (g:=g) rfl
  have HON:=hid (flatT_one l)
  have HLn:Hid ((flatT l).length=l.length*3):=flatT_length l
  clear h hat hnn hc1 hb0
  have hnil:=fun W a n c n' c'=>Lib.run_eql_slice_nil (P:=Tryz.prog) W 68 _ a n c n' c' Tryz.underlying68
  go_enter Tryz.func56,Tryz.ntmps56
  go_wp2_with (at_builtin;refine wpList_append_own_at _ rfl _ _ 68 rfl w.heap.size 96 i0 _ 3 32 Tryz.underlying68 hi0 hz0 hz1 hz2 rfl (by decide) _ 0 [] rfl HROW.out ⟨g,0,none⟩ l.length cap (flatT l) rfl HLn.out HNW.out HON.out (by unfold maxLen;omega) (by omega) (by simp) ?_;intro v' w2 hown2 hg2 _ hat)
  go_ret
  rw [Nat.zero_add,List.nil_append] at hown2
  exact ⟨v',rfl,hown2,HB0.out.grown hg2 HB0.out.size (fun j hj=>by cases hj;exact Nat.le_refl _)⟩
theorem intsV_one (l:List Int):∀ u∈intsV l,u.oneCell'=true:=by
 intro u h
 obtain ⟨x,_,rfl⟩:=List.mem_map.1 h
 rfl
theorem eclone_any {w:World} {v:Value} {l:List Int} (h:w.ownsRow 0 3 1 v l.length (intsV l)) (hf:l.length≤10000):Calls Tryz.prog 57 #[v] w fun e w'=>∃ v',e=.returned v'∧w'.ownsRow w.heap.size 3 1 v' l.length (intsV l)∧Below w.heap.size w w':=by
 obtain ⟨i0,hi0,hz0,hz1,hz2⟩:=info3
 obtain ⟨oa,cap,rfl,hc1,hc2,hnn,hat⟩:=row_shape h
 have HROW:Hid ((w.alloc (.cells #[] 3)).ownsRow w.heap.size 3 1 (.slice (some ⟨w.heap.size,0,none⟩) 0 0) 0 []):=⟨rfl,.inr ⟨w.heap.size,0,#[],rfl,Nat.le_refl _,heap_alloc_new _ _,Nat.le_refl _,Nat.zero_le _,rfl,rfl⟩⟩
 have hb0:Below w.heap.size w (w.alloc (.cells #[] 3)):=(Below.refl _ _).alloc (Nat.le_refl _) _
 have HB0:=hid hb0
 have HBR:=hid (Below.refl w.heap.size w)
 cases oa with
 | none =>
  have h0:=hnn rfl
  subst h0
  have hl:l=[]:=List.eq_nil_of_length_eq_zero (by omega)
  subst hl
  clear h hat hnn hc1 hc2 hb0
  have hnil:=fun W a n c n' c'=>Lib.run_eql_slice_nil (P:=Tryz.prog) W 23 _ a n c n' c' Tryz.underlying23
  go_enter Tryz.func57,Tryz.ntmps57
  go_wp2
  go_ret
  exact ⟨_,rfl,World.ownsRow_nil _ _ _ _,HBR.out⟩
 | some ad =>
  have hg:∃ g,ad=⟨g,0,none⟩:=by
   rcases h.2 with ⟨e,_⟩ | ⟨g,_,_,e,_⟩
   ·cases e
   ·cases e;exact ⟨g,rfl⟩
  obtain ⟨g,rfl⟩:=hg
  have HNW:Hid (∀ j u,(intsV l)[j]?=some u→(w.alloc (.cells #[] 3)).cell? ((⟨g,0,none⟩:Addr).add j)=some u):=World.ownsRow.cells (row_kept h (fun k hk=>hb0.block k (row_lt h hk))) (g:=g) rfl
  have HON:=hid (intsV_one l)
  have HLn:Hid ((intsV l).length=l.length*1):=by show _=_;simp [intsV]
  clear h hat hnn hc1 hb0
  have hnil:=fun W a n c n' c'=>Lib.run_eql_slice_nil (P:=Tryz.prog) W 23 _ a n c n' c' Tryz.underlying23
  go_enter Tryz.func57,Tryz.ntmps57
  go_wp2_with (at_builtin;refine wpList_append_own_at _ rfl _ _ 23 rfl w.heap.size 3 i0 _ 1 8 Tryz.underlying23 hi0 hz0 hz1 hz2 rfl (by decide) _ 0 [] rfl HROW.out ⟨g,0,none⟩ l.length cap (intsV l) rfl HLn.out HNW.out HON.out (by unfold maxLen;omega) (by omega) (by simp) ?_;intro v' w2 hown2 hg2 _ hat)
  go_ret
  rw [Nat.zero_add,List.nil_append] at hown2
  exact ⟨v',rfl,hown2,HB0.out.grown hg2 HB0.out.size (fun j hj=>by cases hj;exact Nat.le_refl _)⟩
theorem below_set {B:Nat} {w W:World} {x j:Nat} {v:Value} (h:Below B w W) (hx:B≤x):Below B w (W.setCell ⟨x,j,none⟩ v) :=
 h.trans ⟨rfl,rfl,rfl,by simp,fun k hk=>Below.heap_setCell _ _ _ _ (by show k≠x;omega)⟩
theorem kset (W:World) (x j:Nat) (v:Value):Keeps (fun k=>k=x) W (W.setCell ⟨x,j,none⟩ v):=Keeps.set (S:=fun k=>k=x) W (a:=⟨x,j,none⟩) rfl v
theorem kthen {x:Nat} {w w1 w2:World} (h:Keeps (fun k=>k=x) w w1) (k:Keeps (fun k=>k=x) w1 w2):Keeps (fun k=>k=x) w w2:=h.trans k (fun _ h=>.inl h)
theorem kclone_any {w:World} {Z:Nat→Prop} {q:Nat} {I:Im} (hi:Img w Z q I):Calls Tryz.prog 18 #[.pointer (some ⟨q,0,none⟩)] w fun e w'=>∃ q2,e=.returned (.pointer (some ⟨q2,0,none⟩))∧(∃ Z',Img w' Z' q2 I∧∀ k,Z' k→w.heap.size≤k)∧Below w.heap.size w w':=by
 have HIM:=hid hi
 obtain ⟨L,b,vt,vp,ve,ps,h,_⟩:=hi
 obtain ⟨ta0,tc0,rfl,_⟩:=row_shape h.tops
 obtain ⟨pa0,pc0,rfl,_⟩:=row_shape h.parts
 obtain ⟨ea0,ec0,rfl,_⟩:=row_shape h.eps
 have HI:=hid h
 have c0:=h.c0
 have c1:=h.c1
 have c2:=h.c2
 have c3:=h.c3
 have c4:=h.c4
 have hqlt:q<w.heap.size:=h.lt (.inl rfl)
 have hbA:Below w.heap.size w (w.alloc (.cells #[.int .i64 I.applied,.map (some b),.slice ta0 I.tops.length tc0,.slice pa0 ps.length pc0,.slice ea0 I.eps.length ec0] 70)):=(Below.refl _ _).alloc (Nat.le_refl _) _
 have HB0:=hid hbA
 have HX0:=hid (heap_alloc_new w (.cells #[.int .i64 I.applied,.map (some b),.slice ta0 I.tops.length tc0,.slice pa0 ps.length pc0,.slice ea0 I.eps.length ec0] 70))
 have hs0:(w.alloc (.cells #[.int .i64 I.applied,.map (some b),.slice ta0 I.tops.length tc0,.slice pa0 ps.length pc0,.slice ea0 I.eps.length ec0] 70)).heap.size=w.heap.size+1:=by simp
 have d1:=(h.under hbA).c1
 have HUN:Hid (∀ V,Below w.heap.size w V→ImC V L q b (.slice ta0 I.tops.length tc0) (.slice pa0 ps.length pc0) (.slice ea0 I.eps.length ec0) ps I∧Img V Z q I):=fun V hV=>⟨HI.out.under hV,HIM.out.under hV⟩
 clear h hbA
 go_enter Tryz.func18,Tryz.ntmps18
 go_upto_region 2 with fail
 generalize w.alloc (.cells #[.int .i64 I.applied,.map (some b),.slice ta0 I.tops.length tc0,.slice pa0 ps.length pc0,.slice ea0 I.eps.length ec0] 70)=W0 at *
 obtain ⟨x,hx⟩:∃ x,x=w.heap.size:=⟨_,rfl⟩
 rw [← hx] at HB0 HX0 hs0 hqlt HUN ⊢
 have HXW:=hid hx
 clear hx c0 c1 c2 c3 c4 HI HIM
 have hqx:¬ q=x:=by omega
 have hxq:¬ x=q:=by omega
 have HS0:=hid hs0
 clear hs0 hqlt
 -- the map
 go_wp2_with fail
 refine (mclone_any (HUN.out W0 HB0.out).1.bmap).mono ?_
 rintro e w1 ⟨rfl,ho1,hb1⟩
 have HM1:=hid ho1
 have HL1:=hid hb1
 have HB1:=hid (HB0.out.trans (hb1.mono (by have:=HS0.out;omega)))
 have HX1:Hid (w1.heap[x]?=some (.cells #[.int .i64 I.applied,.map (some b),.slice ta0 I.tops.length tc0,.slice pa0 ps.length pc0,.slice ea0 I.eps.length ec0] 70)):=(hb1.block x (by have:=HS0.out;omega)).trans HX0.out
 clear ho1 hb1 d1
 have f1:=frz_blk HX1.out 1
 have a1:=cell_blk HX1.out 1 _ rfl
 have HX1':Hid ((w1.setCell ⟨x,1,none⟩ (.map (some W0.heap.size))).heap[x]?=some (.cells #[.int .i64 I.applied,.map (some W0.heap.size),.slice ta0 I.tops.length tc0,.slice pa0 ps.length pc0,.slice ea0 I.eps.length ec0] 70)):=set_box HX1.out
 have HB1':=hid (below_set (j:=1) (v:=.map (some W0.heap.size)) HB1.out (Nat.le_refl x))
 have e2:=(HUN.out w1 HB1.out).1.c2
 have HK1:=hid (kset w1 x 1 (.map (some W0.heap.size)))
 go_upto_region 3 with fail
 clear e2 f1 a1
 have e2:=(HUN.out _ HB1'.out).1.c2
 generalize hW1:w1.setCell ⟨x,1,none⟩ (.map (some W0.heap.size))=w1' at *
 clear hW1
 go_wp2_with fail
 refine (tclone_any (HUN.out w1' HB1'.out).1.tops (by have:=(HUN.out w1' HB1'.out).1.ok.topsFew;omega)).mono ?_
 rintro e w2 ⟨tv,rfl,ho2,hb2⟩
 have HT2:=hid ho2
 have HK2:Hid (Keeps (fun k=>k=x) w1' w2):=Keeps.of_below hb2
 have hxs:x<w1'.heap.size:=(Array.getElem?_eq_some_iff.1 HX1'.out).1
 have HB2:=hid (HB1'.out.trans (hb2.mono (Nat.le_of_lt hxs)))
 have HX2:Hid (w2.heap[x]?=some (.cells #[.int .i64 I.applied,.map (some W0.heap.size),.slice ta0 I.tops.length tc0,.slice pa0 ps.length pc0,.slice ea0 I.eps.length ec0] 70)):=(hb2.block x hxs).trans HX1'.out
 clear ho2 hb2 hxs e2
 have f1:=frz_blk HX2.out 2
 have a1:=cell_blk HX2.out 2 _ rfl
 have HX2':Hid ((w2.setCell ⟨x,2,none⟩ tv).heap[x]?=some (.cells #[.int .i64 I.applied,.map (some W0.heap.size),tv,.slice pa0 ps.length pc0,.slice ea0 I.eps.length ec0] 70)):=set_box HX2.out
 have HB2':=hid (below_set (j:=2) (v:=tv) HB2.out (Nat.le_refl x))
 have HKS2:=hid (kset w2 x 2 tv)
 have hvt:∃ a n c,tv=.slice a n c:=by
  obtain ⟨oa,cap,e,_⟩:=row_shape (row_base HT2.out (Nat.zero_le _))
  exact ⟨_,_,_,e⟩
 obtain ⟨ta,tn,tc,rfl⟩:=hvt
 go_upto_region 4 with fail
 clear f1 a1
 generalize hW2:w2.setCell ⟨x,2,none⟩ (.slice ta tn tc)=w2' at *
 clear hW2
 go_wp2_with fail
 refine (parts_any (HUN.out w2' HB2'.out).2).mono ?_
 rintro e w3 ⟨pv,rfl,ho3,hb3⟩
 have HP3:=hid ho3
 have HK3:Hid (Keeps (fun k=>k=x) w2' w3):=Keeps.of_below hb3
 have hxs:x<w2'.heap.size:=(Array.getElem?_eq_some_iff.1 HX2'.out).1
 have HXS:=hid hxs
 have HB3:=hid (HB2'.out.trans (hb3.mono (Nat.le_of_lt hxs)))
 have HX3:Hid (w3.heap[x]?=some (.cells #[.int .i64 I.applied,.map (some W0.heap.size),.slice ta tn tc,.slice pa0 ps.length pc0,.slice ea0 I.eps.length ec0] 70)):=(hb3.block x hxs).trans HX2'.out
 clear ho3 hb3 hxs
 have f1:=frz_blk HX3.out 3
 have a1:=cell_blk HX3.out 3 _ rfl
 have HX3':Hid ((w3.setCell ⟨x,3,none⟩ pv).heap[x]?=some (.cells #[.int .i64 I.applied,.map (some W0.heap.size),.slice ta tn tc,pv,.slice ea0 I.eps.length ec0] 70)):=set_box HX3.out
 have HB3':=hid (below_set (j:=3) (v:=pv) HB3.out (Nat.le_refl x))
 have HKS3:=hid (kset w3 x 3 pv)
 have HSZ3:Hid ((w3.setCell ⟨x,3,none⟩ pv).heap.size=w3.heap.size):=by show _=_;simp
 have hvt:∃ a n c,pv=.slice a n c:=by
  obtain ⟨ds,_,h2,_⟩:=HP3.out
  obtain ⟨oa,cap,e,_⟩:=row_shape h2
  exact ⟨_,_,_,e⟩
 obtain ⟨pa,pn,pk,rfl⟩:=hvt
 have e4:=(HUN.out w3 HB3.out).1.c4
 go_upto_region 5 with fail
 clear f1 a1 e4
 have e4:=(HUN.out _ HB3'.out).1.c4
 generalize hW3:w3.setCell ⟨x,3,none⟩ (.slice pa pn pk)=w3' at *
 clear hW3
 go_wp2_with fail
 refine (eclone_any (HUN.out w3' HB3'.out).1.eps (by have:=(HUN.out w3' HB3'.out).1.ok.eps;omega)).mono ?_
 rintro e w4 ⟨ev,rfl,ho4,hb4⟩
 have HE4:=hid ho4
 have HK4:Hid (Keeps (fun k=>k=x) w3' w4):=Keeps.of_below hb4
 have hxs:x<w3'.heap.size:=(Array.getElem?_eq_some_iff.1 HX3'.out).1
 have HB4:=hid (HB3'.out.trans (hb4.mono (Nat.le_of_lt hxs)))
 have HX4:Hid (w4.heap[x]?=some (.cells #[.int .i64 I.applied,.map (some W0.heap.size),.slice ta tn tc,.slice pa pn pk,.slice ea0 I.eps.length ec0] 70)):=(hb4.block x hxs).trans HX3'.out
 clear ho4 hb4 hxs e4
 have f1:=frz_blk HX4.out 4
 have a1:=cell_blk HX4.out 4 _ rfl
 have HX4':Hid ((w4.setCell ⟨x,4,none⟩ ev).heap[x]?=some (.cells #[.int .i64 I.applied,.map (some W0.heap.size),.slice ta tn tc,.slice pa pn pk,ev] 70)):=set_box HX4.out
 have HB4':=hid (below_set (j:=4) (v:=ev) HB4.out (Nat.le_refl x))
 have HKS4:=hid (kset w4 x 4 ev)
 have hvt:∃ a n c,ev=.slice a n c:=by
  obtain ⟨oa,cap,e,_⟩:=row_shape (row_base HE4.out (Nat.zero_le _))
  exact ⟨_,_,_,e⟩
 obtain ⟨ea,en,ek,rfl⟩:=hvt
 go_wp2_with fail
 go_ret
 clear f1 a1
 generalize hW4:w4.setCell ⟨x,4,none⟩ (.slice ea en ek)=w4' at *
 clear hW4
 refine ⟨x,rfl,⟨fun k=>x≤k∧k<w4'.heap.size,?_,fun k hk=>by rw [← HXW.out];exact hk.1⟩,by rw [← HXW.out];exact HB4'.out⟩
 obtain ⟨ds,p1,p2,p3,p4⟩:=HP3.out
 have k4:=kthen HK4.out HKS4.out
 have k3:=kthen HKS3.out k4
 have k2:=kthen HKS2.out (kthen HK3.out k3)
 have k1:=kthen HK1.out (kthen HK2.out k2)
 have s1:=HS0.out
 have s2:=HL1.out.size
 have s3:=HK1.out.size
 have s4:=HK2.out.size
 have s5:=HKS2.out.size
 have s6:=HK3.out.size
 have s7:=HKS3.out.size
 have s8:=HK4.out.size
 have s9:=HKS4.out.size
 have s10:w3'.heap.size=w3.heap.size:=HSZ3.out
 have hdl:ds.length=I.parts.length:=by rw [← p1,List.length_map]
 have hmlt:W0.heap.size<w1.heap.size:=HM1.out.lt
 have hbl:∀ k,w2'.heap.size+1≤k→k<w3.heap.size→¬ Own x W0.heap.size (.slice ta tn tc) (.slice pa pn pk) (.slice ea en ek) k:=by
  rintro k h1 h2 (h | h | h | h | h)
  ·omega
  ·omega
  ·have:=row_lt (row_base HT2.out (Nat.zero_le _)) h;omega
  ·rw [p4] at h;cases h;omega
  ·have:=(World.ownsRow.lt HE4.out k h).1;omega
 have hown:∀ k,Own x W0.heap.size (.slice ta tn tc) (.slice pa pn pk) (.slice ea en ek) k→x≤k∧k<w4'.heap.size:=by
  rintro k (h | h | h | h | h)
  ·have:=(Array.getElem?_eq_some_iff.1 HX4'.out).1;omega
  ·omega
  ·have:=World.ownsRow.lt HT2.out k h;omega
  ·have:=row_lt p2 h;rw [p4] at h;cases h;omega
  ·have:=World.ownsRow.lt HE4.out k h;omega
 refine ⟨fun k=>w2'.heap.size+1≤k∧k<w3.heap.size,W0.heap.size,.slice ta tn tc,.slice pa pn pk,.slice ea en ek,ds,⟨HX4'.out,?_,?_,?_,?_,?_,p1.symm,?_,(HUN.out w4' HB4'.out).1.ok⟩,hown,fun k hk=>by omega,fun k hk=>hk.2⟩
 ·obtain ⟨es,clock,hm,r⟩:=HM1.out
  exact ⟨es,clock,(k1.block _ hmlt (by omega)).trans hm,r⟩
 ·refine row_kept (row_base HT2.out (Nat.zero_le _)) (fun k hk=>?_)
  have:=World.ownsRow.lt HT2.out k hk
  exact k2.block k this.2 (by omega)
 ·rw [hdl]
  refine row_kept p2 (fun k hk=>?_)
  have h9:=row_lt p2 hk
  rw [p4] at hk
  cases hk
  exact k3.block _ h9 (by omega)
 ·refine row_kept (row_base HE4.out (Nat.zero_le _)) (fun k hk=>?_)
  have:=World.ownsRow.lt HE4.out k hk
  exact HKS4.out.block k this.2 (by omega)
 ·intro y hy
  obtain ⟨g1,g2⟩:=p3 y hy
  exact ⟨g1.kept (g2.and g1.old) (fun k hk=>k3.block k hk.2 (by omega)) (by omega),g2.and g1.old⟩
 ·intro k hk
  exact ⟨by omega,hbl k hk.1 hk.2⟩
def H13 (w:World) (Z:Nat→Prop) (q:Nat) (I:Im) (r:Rc) (la:Option Addr) (lc:Nat) (W:World):Prop:=DImg W Z q (nextI I)∧Keeps Z w W∧W.heap[w.heap.size]?=some (.cells (RV r.kind r.a r.b r.c r.d r.name r.text la r.list.length lc) 34)∧RecM W (.agg (RV r.kind r.a r.b r.c r.d r.name r.text la r.list.length lc)) r
theorem at_world13 {F:World→Prop} {W:World} (Q:World→Prop) (h:Q W) (k:∀ V,Q V→F V):F W:=k W h
theorem rhead {w:World} {Z:Nat→Prop} {q:Nat} {I:Im} (hi:DImg w Z q I) {v:Value} {r:Rc} (hr:RecM w v r) (hnz:InR (fun k=>¬ Z k) v r) (ha:I.applied<1000000000000):∃ la lc,v=.agg (RV r.kind r.a r.b r.c r.d r.name r.text la r.list.length lc)∧w.cell? ⟨q,0,none⟩=some (.int .i64 I.applied)∧w.frozen? ⟨q,0,none⟩=false∧q<w.heap.size∧0≤I.applied∧Hid (¬ Z w.heap.size)∧Hid (RcOk r)∧Hid (H13 w Z q I r la lc ((w.setCell ⟨q,0,none⟩ (.int .i64 (I.applied+1))).alloc (.cells (RV r.kind r.a r.b r.c r.d r.name r.text la r.list.length lc) 34))):=by
 obtain ⟨L,vb,vt,vp,ve,ps,h,hz4,hz5,hz6⟩:=hi
 have HRM:=hid hr
 have HNZ:=hid hnz
 obtain ⟨⟨lv,rfl,hil⟩,ok,hname⟩:=hr
 obtain ⟨⟨la,lc,rfl,_⟩,_⟩:=id hil
 have hql:q<w.heap.size:=h.lt (.inl rfl)
 have hks:Keeps (fun k=>k=q) w (w.setCell ⟨q,0,none⟩ (.int .i64 (I.applied+1))):=Keeps.set (S:=fun k=>k=q) _ (a:=⟨q,0,none⟩) rfl _
 have hsz:(w.setCell ⟨q,0,none⟩ (.int .i64 (I.applied+1))).heap.size=w.heap.size:=by simp
 have hbB:Below w.heap.size (w.setCell ⟨q,0,none⟩ (.int .i64 (I.applied+1))) ((w.setCell ⟨q,0,none⟩ (.int .i64 (I.applied+1))).alloc (.cells (RV r.kind r.a r.b r.c r.d r.name r.text la r.list.length lc) 34)):=(Below.refl _ _).alloc (by rw [hsz];exact Nat.le_refl _) _
 have hT:=(h.tick ha).under (by rw [hsz];exact hbB)
 refine ⟨la,lc,rfl,h.c0,h.fz 0,hql,h.ok.app.1,fun hz=>by have:=hz6 _ hz;omega,ok,⟨L,vb,vt,vp,ve,ps,hT,hz4,hz5,fun k hk=>by have:=hz6 k hk;simp;omega⟩,?_,?_,⟨_,rfl,?_⟩,ok,hname⟩
 ·exact (hks.mono (T:=Z) (fun k h=>by rw [show k=q from h];exact hz4 q (.inl rfl))).trans (Keeps.of_below (S:=Z) (by rw [hsz];exact hbB)) (fun k h=>.inl h)
 ·have h8:=heap_alloc_new (w.setCell ⟨q,0,none⟩ (.int .i64 (I.applied+1))) (.cells (RV r.kind r.a r.b r.c r.d r.name r.text la r.list.length lc) 34)
  rw [hsz] at h8
  exact h8
 ·have hin:In (fun k=>¬ Z k) (.slice la r.list.length lc) r.list:=HNZ.out _ _ _ _ _ _ _ _ rfl
  exact (hil.kept (X:=fun k=>¬ Z k∧k<w.heap.size) (fun hne b off n c e=>⟨hin hne b off n c e,hil.old hne b off n c e⟩) (fun k hk=>hks.block k hk.2 (fun e=>hk.1 (by rw [show k=q from e];exact hz4 q (.inl rfl)))) hks.size).under (by rw [hsz];exact hbB)
theorem rapply_none {w:World} {Z:Nat→Prop} {q:Nat} {I:Im} (hi:DImg w Z q I) {v:Value} {r:Rc} (hr:RecM w v r) (hnz:InR (fun k=>¬ Z k) v r) (ha:I.applied<1000000000000) (hk:r.kind<1∨10<r.kind):Calls Tryz.prog 13 #[.pointer (some ⟨q,0,none⟩),v] w fun e w'=>e=.returned (.tuple #[.int .i64 (applyI I r).2.1,.int .i64 (applyI I r).2.2])∧DAfter Z w w' q (applyI I r).1:=by
 obtain ⟨la,lc,rfl,c0,f0,hql,hap,HXZ,HOKR,HH⟩:=rhead hi hr hnz ha
 obtain ⟨rk,ra,rb,rc,rd,rn,rt,rl⟩:=r
 simp only at hk ⊢
 obtain ⟨R,hR⟩:∃ R,R=applyI I ⟨rk,ra,rb,rc,rd,rn,rt,rl⟩:=⟨_,rfl⟩
 have HRE:Hid (R=doI (nextI I) ⟨rk,ra,rb,rc,rd,rn,rt,rl⟩):=hR
 rw [← hR]
 clear hR hi hr hnz
 have hqn:¬ q=w.heap.size:=by omega
 have hqn2:¬ w.heap.size=q:=by omega
 have e0:R=(nextI I,0,1):=by
  rw [HRE.out]
  unfold doI
  simp only
  rw [if_neg (by omega),if_neg (by omega),if_neg (by omega),if_neg (by omega),if_neg (by omega),if_neg (by omega)]
 have HE0:=hid e0
 clear e0
 have n1:(rk == 1)=false:=by simp;omega
 have n2:(rk == 2)=false:=by simp;omega
 have n3:(rk == 3)=false:=by simp;omega
 have n4:(rk == 4)=false:=by simp;omega
 have n5:(rk == 5)=false:=by simp;omega
 have n6:(rk == 6)=false:=by simp;omega
 have n7:(rk == 7)=false:=by simp;omega
 have n8:(rk == 8)=false:=by simp;omega
 have n9:(rk == 9)=false:=by simp;omega
 have n10:(rk == 10)=false:=by simp;omega
 clear hk
 go_enter Tryz.func13,Tryz.ntmps13
 go_upto_region 2 with fail
 refine at_world13 (F:=Code.wp _ _ _ _) (H13 w Z q I ⟨rk,ra,rb,rc,rd,rn,rt,rl⟩ la lc) HH.out ?_
 intro W hW
 have HI:=hid hW.1
 have HKS:=hid hW.2.1
 have HBX:=hid hW.2.2.1
 have HRM2:=hid hW.2.2.2
 simp only at HBX HRM2
 obtain ⟨x,hx⟩:∃ x,x=w.heap.size:=⟨_,rfl⟩
 rw [← hx] at HBX HXZ ⊢
 clear c0 f0 hx hqn hqn2 hW HH
 obtain ⟨a0,a1,a2,a3,a4,a5,a6,a7⟩:=cells8 HBX.out
 go_wp2_with fail
 go_ret2
 exact ⟨by rw [HE0.out];rfl,by rw [HE0.out];exact (HI.out.after (Below.refl _ _)).from HKS.out⟩
theorem rapply_1 {w:World} {Z:Nat→Prop} {q:Nat} {I:Im} (hi:DImg w Z q I) {v:Value} {r:Rc} (hr:RecM w v r) (hnz:InR (fun k=>¬ Z k) v r) (ha:I.applied<1000000000000) (hk:r.kind=1):Calls Tryz.prog 13 #[.pointer (some ⟨q,0,none⟩),v] w fun e w'=>e=.returned (.tuple #[.int .i64 (applyI I r).2.1,.int .i64 (applyI I r).2.2])∧DAfter Z w w' q (applyI I r).1:=by
 obtain ⟨la,lc,rfl,c0,f0,hql,hap,HXZ,HOKR,HH⟩:=rhead hi hr hnz ha
 obtain ⟨rk,ra,rb,rc,rd,rn,rt,rl⟩:=r
 simp only at hk ⊢
 obtain ⟨R,hR⟩:∃ R,R=applyI I ⟨rk,ra,rb,rc,rd,rn,rt,rl⟩:=⟨_,rfl⟩
 have HRE:Hid (R=doI (nextI I) ⟨rk,ra,rb,rc,rd,rn,rt,rl⟩):=hR
 rw [← hR]
 clear hR hi hr hnz
 have hqn:¬ q=w.heap.size:=by omega
 have hqn2:¬ w.heap.size=q:=by omega
 have HK:=hid hk
 clear hk
 have e0:R=registerI (nextI I) ⟨rk,ra,rb,rc,rd,rn,rt,rl⟩:=by rw [HRE.out];unfold doI;rw [if_pos HK.out]
 have HE0:=hid e0
 have HTD:=hid (register_told (nextI I) ⟨rk,ra,rb,rc,rd,rn,rt,rl⟩)
 clear e0
 go_enter Tryz.func13,Tryz.ntmps13
 go_upto_region 2 with fail
 refine at_world13 (F:=Code.wp _ _ _ _) (H13 w Z q I ⟨rk,ra,rb,rc,rd,rn,rt,rl⟩ la lc) HH.out ?_
 intro W hW
 have HI:=hid hW.1
 have HKS:=hid hW.2.1
 have HBX:=hid hW.2.2.1
 have HRM2:=hid hW.2.2.2
 simp only at HBX HRM2
 have HC:=hid (rregister_any HI.out ⟨rk,ra,rb,rc,rd,rn,rt,rl⟩ HOKR.out.a HOKR.out.b)
 obtain ⟨x,hx⟩:∃ x,x=w.heap.size:=⟨_,rfl⟩
 rw [← hx] at HBX HXZ ⊢
 clear c0 f0 hx hqn hqn2 hW HH
 obtain ⟨a0,a1,a2,a3,a4,a5,a6,a7⟩:=cells8 HBX.out
 rw [HK.out] at a0
 rw [← HE0.out] at HTD HC
 clear HE0 HRE
 simp only at HTD
 obtain ⟨n,hn⟩:∃ n,n=R.2.2:=⟨_,rfl⟩
 have HN:=hid hn
 rw [← hn] at HC HTD
 clear hn
 go_wp2_with fail
 refine HC.out.mono ?_
 rintro e w2 ⟨rfl,hA⟩
 have HA:=hid (hA.from HKS.out)
 have hb2:w2.cell? ⟨x,1,none⟩=some (.int .i64 ra):=by
  obtain ⟨_,_,_,hk3⟩:=hA
  exact cell_blk ((hk3.block x (Array.getElem?_eq_some_iff.1 HBX.out).1 (fun hz=>HXZ.out hz)).trans HBX.out) 1 _ rfl
 clear hA a0 a1 a2 a3 a4 a5 a6 a7
 by_cases h0:n=0
 ·subst h0
  go_wp2_with fail
  go_ret2
  exact ⟨by rw [HTD.out,← HN.out];rfl,HA.out⟩
 ·have h0':(n == 0)=false:=by simp [h0]
  have HTD2:Hid (R.2.1=0):=by show _=_;rw [HTD.out,if_neg h0]
  go_wp2_with fail
  go_ret2
  exact ⟨by rw [HTD2.out,← HN.out];rfl,HA.out⟩
theorem rapply_2 {w:World} {Z:Nat→Prop} {q:Nat} {I:Im} (hi:DImg w Z q I) {v:Value} {r:Rc} (hr:RecM w v r) (hnz:InR (fun k=>¬ Z k) v r) (ha:I.applied<1000000000000) (hk:r.kind=2):Calls Tryz.prog 13 #[.pointer (some ⟨q,0,none⟩),v] w fun e w'=>e=.returned (.tuple #[.int .i64 (applyI I r).2.1,.int .i64 (applyI I r).2.2])∧DAfter Z w w' q (applyI I r).1:=by
 obtain ⟨la,lc,rfl,c0,f0,hql,hap,HXZ,HOKR,HH⟩:=rhead hi hr hnz ha
 obtain ⟨rk,ra,rb,rc,rd,rn,rt,rl⟩:=r
 simp only at hk ⊢
 obtain ⟨R,hR⟩:∃ R,R=applyI I ⟨rk,ra,rb,rc,rd,rn,rt,rl⟩:=⟨_,rfl⟩
 have HRE:Hid (R=doI (nextI I) ⟨rk,ra,rb,rc,rd,rn,rt,rl⟩):=hR
 rw [← hR]
 clear hR hi hr hnz
 have hqn:¬ q=w.heap.size:=by omega
 have hqn2:¬ w.heap.size=q:=by omega
 have HK:=hid hk
 clear hk
 have e0:R=fenceI (nextI I) ⟨rk,ra,rb,rc,rd,rn,rt,rl⟩:=by
  have h9:=HK.out
  rw [HRE.out];unfold doI;simp only;rw [h9];simp
 have HE0:=hid e0
 have HTD:Hid (R.2.2=refusedI (nextI I) ⟨rk,ra,rb,rc,rd,rn,rt,rl⟩ false∧R.2.1=if refusedI (nextI I) ⟨rk,ra,rb,rc,rd,rn,rt,rl⟩ false=0 then ra else 0):=by
  rw [e0]
  show _∧_
  unfold fenceI
  by_cases h9:refusedI (nextI I) ⟨rk,ra,rb,rc,rd,rn,rt,rl⟩ false=0
  ·rw [h9];simp
  ·simp [h9]
 have hif:(if false then unfenceI (nextI I) ⟨rk,ra,rb,rc,rd,rn,rt,rl⟩ else fenceI (nextI I) ⟨rk,ra,rb,rc,rd,rn,rt,rl⟩).1=R.1:=by rw [e0];rfl
 have HIFF:=hid hif
 clear e0 hif
 go_enter Tryz.func13,Tryz.ntmps13
 go_upto_region 2 with fail
 refine at_world13 (F:=Code.wp _ _ _ _) (H13 w Z q I ⟨rk,ra,rb,rc,rd,rn,rt,rl⟩ la lc) HH.out ?_
 intro W hW
 have HI:=hid hW.1
 have HKS:=hid hW.2.1
 have HBX:=hid hW.2.2.1
 have HRM2:=hid hW.2.2.2
 simp only at HBX HRM2
 have HC:=hid (rfenceI_any HI.out ⟨rk,ra,rb,rc,rd,rn,rt,rl⟩ HOKR.out.a HOKR.out.b false)
 obtain ⟨x,hx⟩:∃ x,x=w.heap.size:=⟨_,rfl⟩
 rw [← hx] at HBX HXZ ⊢
 clear c0 f0 hx hqn hqn2 hW HH
 obtain ⟨a0,a1,a2,a3,a4,a5,a6,a7⟩:=cells8 HBX.out
 rw [HK.out] at a0
 obtain ⟨n,hn⟩:∃ n,n=refusedI (nextI I) ⟨rk,ra,rb,rc,rd,rn,rt,rl⟩ false:=⟨_,rfl⟩
 rw [← hn] at HC HTD
 clear HE0 HRE hn
 go_wp2_with fail
 refine HC.out.mono ?_
 rintro e w2 ⟨rfl,hA⟩
 have hA2:DAfter Z W w2 q R.1:=by rw [← HIFF.out];exact hA
 have HA:=hid (hA2.from HKS.out)
 have hb2:w2.cell? ⟨x,1,none⟩=some (.int .i64 ra):=by
  obtain ⟨_,_,_,hk3⟩:=hA2
  exact cell_blk ((hk3.block x (Array.getElem?_eq_some_iff.1 HBX.out).1 (fun hz=>HXZ.out hz)).trans HBX.out) 1 _ rfl
 clear hA hA2 a0 a1 a2 a3 a4 a5 a6 a7
 by_cases h0:n=0
 ·subst h0
  go_wp2_with fail
  go_ret2
  exact ⟨by rw [HTD.out.2,HTD.out.1];rfl,HA.out⟩
 ·have h0':(n == 0)=false:=by simp [h0]
  have HTD2:Hid (R.2.1=0):=by show _=_;rw [HTD.out.2,if_neg h0]
  go_wp2_with fail
  go_ret2
  exact ⟨by rw [HTD2.out,HTD.out.1];rfl,HA.out⟩
theorem rapply_3 {w:World} {Z:Nat→Prop} {q:Nat} {I:Im} (hi:DImg w Z q I) {v:Value} {r:Rc} (hr:RecM w v r) (hnz:InR (fun k=>¬ Z k) v r) (ha:I.applied<1000000000000) (hk:r.kind=3):Calls Tryz.prog 13 #[.pointer (some ⟨q,0,none⟩),v] w fun e w'=>e=.returned (.tuple #[.int .i64 (applyI I r).2.1,.int .i64 (applyI I r).2.2])∧DAfter Z w w' q (applyI I r).1:=by
 obtain ⟨la,lc,rfl,c0,f0,hql,hap,HXZ,HOKR,HH⟩:=rhead hi hr hnz ha
 obtain ⟨rk,ra,rb,rc,rd,rn,rt,rl⟩:=r
 simp only at hk ⊢
 obtain ⟨R,hR⟩:∃ R,R=applyI I ⟨rk,ra,rb,rc,rd,rn,rt,rl⟩:=⟨_,rfl⟩
 have HRE:Hid (R=doI (nextI I) ⟨rk,ra,rb,rc,rd,rn,rt,rl⟩):=hR
 rw [← hR]
 clear hR hi hr hnz
 have hqn:¬ q=w.heap.size:=by omega
 have hqn2:¬ w.heap.size=q:=by omega
 have HK:=hid hk
 clear hk
 have e0:R=unfenceI (nextI I) ⟨rk,ra,rb,rc,rd,rn,rt,rl⟩:=by
  have h9:=HK.out
  rw [HRE.out];unfold doI;simp only;rw [h9];simp
 have HE0:=hid e0
 have HTD:Hid (R.2.2=refusedI (nextI I) ⟨rk,ra,rb,rc,rd,rn,rt,rl⟩ true∧R.2.1=if refusedI (nextI I) ⟨rk,ra,rb,rc,rd,rn,rt,rl⟩ true=0 then ra else 0):=by
  rw [e0]
  show _∧_
  unfold unfenceI
  by_cases h9:refusedI (nextI I) ⟨rk,ra,rb,rc,rd,rn,rt,rl⟩ true=0
  ·rw [h9];simp
  ·simp [h9]
 have hif:(if true then unfenceI (nextI I) ⟨rk,ra,rb,rc,rd,rn,rt,rl⟩ else fenceI (nextI I) ⟨rk,ra,rb,rc,rd,rn,rt,rl⟩).1=R.1:=by rw [e0];rfl
 have HIFF:=hid hif
 clear e0 hif
 go_enter Tryz.func13,Tryz.ntmps13
 go_upto_region 2 with fail
 refine at_world13 (F:=Code.wp _ _ _ _) (H13 w Z q I ⟨rk,ra,rb,rc,rd,rn,rt,rl⟩ la lc) HH.out ?_
 intro W hW
 have HI:=hid hW.1
 have HKS:=hid hW.2.1
 have HBX:=hid hW.2.2.1
 have HRM2:=hid hW.2.2.2
 simp only at HBX HRM2
 have HC:=hid (rfenceI_any HI.out ⟨rk,ra,rb,rc,rd,rn,rt,rl⟩ HOKR.out.a HOKR.out.b true)
 obtain ⟨x,hx⟩:∃ x,x=w.heap.size:=⟨_,rfl⟩
 rw [← hx] at HBX HXZ ⊢
 clear c0 f0 hx hqn hqn2 hW HH
 obtain ⟨a0,a1,a2,a3,a4,a5,a6,a7⟩:=cells8 HBX.out
 rw [HK.out] at a0
 obtain ⟨n,hn⟩:∃ n,n=refusedI (nextI I) ⟨rk,ra,rb,rc,rd,rn,rt,rl⟩ true:=⟨_,rfl⟩
 rw [← hn] at HC HTD
 clear HE0 HRE hn
 go_wp2_with fail
 refine HC.out.mono ?_
 rintro e w2 ⟨rfl,hA⟩
 have hA2:DAfter Z W w2 q R.1:=by rw [← HIFF.out];exact hA
 have HA:=hid (hA2.from HKS.out)
 have hb2:w2.cell? ⟨x,1,none⟩=some (.int .i64 ra):=by
  obtain ⟨_,_,_,hk3⟩:=hA2
  exact cell_blk ((hk3.block x (Array.getElem?_eq_some_iff.1 HBX.out).1 (fun hz=>HXZ.out hz)).trans HBX.out) 1 _ rfl
 clear hA hA2 a0 a1 a2 a3 a4 a5 a6 a7
 by_cases h0:n=0
 ·subst h0
  go_wp2_with fail
  go_ret2
  exact ⟨by rw [HTD.out.2,HTD.out.1];rfl,HA.out⟩
 ·have h0':(n == 0)=false:=by simp [h0]
  have HTD2:Hid (R.2.1=0):=by show _=_;rw [HTD.out.2,if_neg h0]
  go_wp2_with fail
  go_ret2
  exact ⟨by rw [HTD2.out,HTD.out.1];rfl,HA.out⟩
theorem rapply_8 {w:World} {Z:Nat→Prop} {q:Nat} {I:Im} (hi:DImg w Z q I) {v:Value} {r:Rc} (hr:RecM w v r) (hnz:InR (fun k=>¬ Z k) v r) (ha:I.applied<1000000000000) (hk:r.kind=8):Calls Tryz.prog 13 #[.pointer (some ⟨q,0,none⟩),v] w fun e w'=>e=.returned (.tuple #[.int .i64 (applyI I r).2.1,.int .i64 (applyI I r).2.2])∧DAfter Z w w' q (applyI I r).1:=by
 obtain ⟨la,lc,rfl,c0,f0,hql,hap,HXZ,HOKR,HH⟩:=rhead hi hr hnz ha
 obtain ⟨rk,ra,rb,rc,rd,rn,rt,rl⟩:=r
 simp only at hk ⊢
 obtain ⟨R,hR⟩:∃ R,R=applyI I ⟨rk,ra,rb,rc,rd,rn,rt,rl⟩:=⟨_,rfl⟩
 have HRE:Hid (R=doI (nextI I) ⟨rk,ra,rb,rc,rd,rn,rt,rl⟩):=hR
 rw [← hR]
 clear hR hi hr hnz
 have hqn:¬ q=w.heap.size:=by omega
 have hqn2:¬ w.heap.size=q:=by omega
 have HK:=hid hk
 clear hk
 have e0:R=pidI (nextI I) ⟨rk,ra,rb,rc,rd,rn,rt,rl⟩:=by
  have h9:=HK.out
  rw [HRE.out];unfold doI;simp only;rw [h9];simp
 have HE0:=hid e0
 clear e0
 go_enter Tryz.func13,Tryz.ntmps13
 go_upto_region 2 with fail
 refine at_world13 (F:=Code.wp _ _ _ _) (H13 w Z q I ⟨rk,ra,rb,rc,rd,rn,rt,rl⟩ la lc) HH.out ?_
 intro W hW
 have HI:=hid hW.1
 have HKS:=hid hW.2.1
 have HBX:=hid hW.2.2.1
 have HRM2:=hid hW.2.2.2
 simp only at HBX HRM2
 have HC:=hid (rpid_any HI.out ⟨rk,ra,rb,rc,rd,rn,rt,rl⟩ HOKR.out.a)
 obtain ⟨x,hx⟩:∃ x,x=w.heap.size:=⟨_,rfl⟩
 rw [← hx] at HBX HXZ ⊢
 clear c0 f0 hx hqn hqn2 hW HH
 obtain ⟨a0,a1,a2,a3,a4,a5,a6,a7⟩:=cells8 HBX.out
 rw [HK.out] at a0
 rw [← HE0.out] at HC
 obtain ⟨n1,hn1⟩:∃ n1,n1=R.2.1:=⟨_,rfl⟩
 obtain ⟨n2,hn2⟩:∃ n2,n2=R.2.2:=⟨_,rfl⟩
 rw [← hn1,← hn2] at HC
 have HN1:=hid hn1
 have HN2:=hid hn2
 clear HE0 HRE hn1 hn2
 go_wp2_with fail
 refine HC.out.mono ?_
 rintro e w2 ⟨rfl,hA⟩
 have HA:=hid (hA.from HKS.out)
 clear hA a0 a1 a2 a3 a4 a5 a6 a7
 go_wp2_with fail
 go_ret2
 exact ⟨by rw [← HN1.out,← HN2.out];rfl,HA.out⟩
theorem rapply_5 {w:World} {Z:Nat→Prop} {q:Nat} {I:Im} (hi:DImg w Z q I) {v:Value} {r:Rc} (hr:RecM w v r) (hnz:InR (fun k=>¬ Z k) v r) (ha:I.applied<1000000000000) (hk:r.kind=5):Calls Tryz.prog 13 #[.pointer (some ⟨q,0,none⟩),v] w fun e w'=>e=.returned (.tuple #[.int .i64 (applyI I r).2.1,.int .i64 (applyI I r).2.2])∧DAfter Z w w' q (applyI I r).1:=by
 obtain ⟨la,lc,rfl,c0,f0,hql,hap,HXZ,HOKR,HH⟩:=rhead hi hr hnz ha
 obtain ⟨rk,ra,rb,rc,rd,rn,rt,rl⟩:=r
 simp only at hk ⊢
 obtain ⟨R,hR⟩:∃ R,R=applyI I ⟨rk,ra,rb,rc,rd,rn,rt,rl⟩:=⟨_,rfl⟩
 have HRE:Hid (R=doI (nextI I) ⟨rk,ra,rb,rc,rd,rn,rt,rl⟩):=hR
 rw [← hR]
 clear hR hi hr hnz
 have hqn:¬ q=w.heap.size:=by omega
 have hqn2:¬ w.heap.size=q:=by omega
 have hkk:rk=5∨rk=6∨rk=7∨rk=10∨rk=9:=by omega
 have HK:=hid hk
 have HKK:=hid hkk
 clear hk hkk
 have e0:R=turnI (nextI I) ⟨rk,ra,rb,rc,rd,rn,rt,rl⟩:=by
  have h9:=HK.out
  rw [HRE.out];unfold doI;simp only;rw [h9];simp
 have HE0:=hid e0
 clear e0
 go_enter Tryz.func13,Tryz.ntmps13
 go_upto_region 2 with fail
 refine at_world13 (F:=Code.wp _ _ _ _) (H13 w Z q I ⟨rk,ra,rb,rc,rd,rn,rt,rl⟩ la lc) HH.out ?_
 intro W hW
 have HI:=hid hW.1
 have HKS:=hid hW.2.1
 have HBX:=hid hW.2.2.1
 have HRM2:=hid hW.2.2.2
 simp only at HBX HRM2
 have HC:=hid (rturn_all HI.out HRM2.out HKK.out)
 obtain ⟨x,hx⟩:∃ x,x=w.heap.size:=⟨_,rfl⟩
 rw [← hx] at HBX HXZ ⊢
 clear c0 f0 hx hqn hqn2 hW HH
 obtain ⟨a0,a1,a2,a3,a4,a5,a6,a7⟩:=cells8 HBX.out
 have hk:=HK.out
 subst hk
 rw [← HE0.out] at HC
 obtain ⟨n1,hn1⟩:∃ n1,n1=R.2.1:=⟨_,rfl⟩
 obtain ⟨n2,hn2⟩:∃ n2,n2=R.2.2:=⟨_,rfl⟩
 rw [← hn1,← hn2] at HC
 have HN1:=hid hn1
 have HN2:=hid hn2
 clear HE0 HRE hn1 hn2
 go_wp2_with fail
 refine HC.out.mono ?_
 rintro e w2 ⟨rfl,hA⟩
 have HA:=hid (hA.from HKS.out)
 clear hA a0 a1 a2 a3 a4 a5 a6 a7
 go_wp2_with fail
 go_ret2
 exact ⟨by rw [← HN1.out,← HN2.out];rfl,HA.out⟩
theorem rapply_6 {w:World} {Z:Nat→Prop} {q:Nat} {I:Im} (hi:DImg w Z q I) {v:Value} {r:Rc} (hr:RecM w v r) (hnz:InR (fun k=>¬ Z k) v r) (ha:I.applied<1000000000000) (hk:r.kind=6):Calls Tryz.prog 13 #[.pointer (some ⟨q,0,none⟩),v] w fun e w'=>e=.returned (.tuple #[.int .i64 (applyI I r).2.1,.int .i64 (applyI I r).2.2])∧DAfter Z w w' q (applyI I r).1:=by
 obtain ⟨la,lc,rfl,c0,f0,hql,hap,HXZ,HOKR,HH⟩:=rhead hi hr hnz ha
 obtain ⟨rk,ra,rb,rc,rd,rn,rt,rl⟩:=r
 simp only at hk ⊢
 obtain ⟨R,hR⟩:∃ R,R=applyI I ⟨rk,ra,rb,rc,rd,rn,rt,rl⟩:=⟨_,rfl⟩
 have HRE:Hid (R=doI (nextI I) ⟨rk,ra,rb,rc,rd,rn,rt,rl⟩):=hR
 rw [← hR]
 clear hR hi hr hnz
 have hqn:¬ q=w.heap.size:=by omega
 have hqn2:¬ w.heap.size=q:=by omega
 have hkk:rk=5∨rk=6∨rk=7∨rk=10∨rk=9:=by omega
 have HK:=hid hk
 have HKK:=hid hkk
 clear hk hkk
 have e0:R=turnI (nextI I) ⟨rk,ra,rb,rc,rd,rn,rt,rl⟩:=by
  have h9:=HK.out
  rw [HRE.out];unfold doI;simp only;rw [h9];simp
 have HE0:=hid e0
 clear e0
 go_enter Tryz.func13,Tryz.ntmps13
 go_upto_region 2 with fail
 refine at_world13 (F:=Code.wp _ _ _ _) (H13 w Z q I ⟨rk,ra,rb,rc,rd,rn,rt,rl⟩ la lc) HH.out ?_
 intro W hW
 have HI:=hid hW.1
 have HKS:=hid hW.2.1
 have HBX:=hid hW.2.2.1
 have HRM2:=hid hW.2.2.2
 simp only at HBX HRM2
 have HC:=hid (rturn_all HI.out HRM2.out HKK.out)
 obtain ⟨x,hx⟩:∃ x,x=w.heap.size:=⟨_,rfl⟩
 rw [← hx] at HBX HXZ ⊢
 clear c0 f0 hx hqn hqn2 hW HH
 obtain ⟨a0,a1,a2,a3,a4,a5,a6,a7⟩:=cells8 HBX.out
 have hk:=HK.out
 subst hk
 rw [← HE0.out] at HC
 obtain ⟨n1,hn1⟩:∃ n1,n1=R.2.1:=⟨_,rfl⟩
 obtain ⟨n2,hn2⟩:∃ n2,n2=R.2.2:=⟨_,rfl⟩
 rw [← hn1,← hn2] at HC
 have HN1:=hid hn1
 have HN2:=hid hn2
 clear HE0 HRE hn1 hn2
 go_wp2_with fail
 refine HC.out.mono ?_
 rintro e w2 ⟨rfl,hA⟩
 have HA:=hid (hA.from HKS.out)
 clear hA a0 a1 a2 a3 a4 a5 a6 a7
 go_wp2_with fail
 go_ret2
 exact ⟨by rw [← HN1.out,← HN2.out];rfl,HA.out⟩
theorem rapply_7 {w:World} {Z:Nat→Prop} {q:Nat} {I:Im} (hi:DImg w Z q I) {v:Value} {r:Rc} (hr:RecM w v r) (hnz:InR (fun k=>¬ Z k) v r) (ha:I.applied<1000000000000) (hk:r.kind=7):Calls Tryz.prog 13 #[.pointer (some ⟨q,0,none⟩),v] w fun e w'=>e=.returned (.tuple #[.int .i64 (applyI I r).2.1,.int .i64 (applyI I r).2.2])∧DAfter Z w w' q (applyI I r).1:=by
 obtain ⟨la,lc,rfl,c0,f0,hql,hap,HXZ,HOKR,HH⟩:=rhead hi hr hnz ha
 obtain ⟨rk,ra,rb,rc,rd,rn,rt,rl⟩:=r
 simp only at hk ⊢
 obtain ⟨R,hR⟩:∃ R,R=applyI I ⟨rk,ra,rb,rc,rd,rn,rt,rl⟩:=⟨_,rfl⟩
 have HRE:Hid (R=doI (nextI I) ⟨rk,ra,rb,rc,rd,rn,rt,rl⟩):=hR
 rw [← hR]
 clear hR hi hr hnz
 have hqn:¬ q=w.heap.size:=by omega
 have hqn2:¬ w.heap.size=q:=by omega
 have hkk:rk=5∨rk=6∨rk=7∨rk=10∨rk=9:=by omega
 have HK:=hid hk
 have HKK:=hid hkk
 clear hk hkk
 have e0:R=turnI (nextI I) ⟨rk,ra,rb,rc,rd,rn,rt,rl⟩:=by
  have h9:=HK.out
  rw [HRE.out];unfold doI;simp only;rw [h9];simp
 have HE0:=hid e0
 clear e0
 go_enter Tryz.func13,Tryz.ntmps13
 go_upto_region 2 with fail
 refine at_world13 (F:=Code.wp _ _ _ _) (H13 w Z q I ⟨rk,ra,rb,rc,rd,rn,rt,rl⟩ la lc) HH.out ?_
 intro W hW
 have HI:=hid hW.1
 have HKS:=hid hW.2.1
 have HBX:=hid hW.2.2.1
 have HRM2:=hid hW.2.2.2
 simp only at HBX HRM2
 have HC:=hid (rturn_all HI.out HRM2.out HKK.out)
 obtain ⟨x,hx⟩:∃ x,x=w.heap.size:=⟨_,rfl⟩
 rw [← hx] at HBX HXZ ⊢
 clear c0 f0 hx hqn hqn2 hW HH
 obtain ⟨a0,a1,a2,a3,a4,a5,a6,a7⟩:=cells8 HBX.out
 have hk:=HK.out
 subst hk
 rw [← HE0.out] at HC
 obtain ⟨n1,hn1⟩:∃ n1,n1=R.2.1:=⟨_,rfl⟩
 obtain ⟨n2,hn2⟩:∃ n2,n2=R.2.2:=⟨_,rfl⟩
 rw [← hn1,← hn2] at HC
 have HN1:=hid hn1
 have HN2:=hid hn2
 clear HE0 HRE hn1 hn2
 go_wp2_with fail
 refine HC.out.mono ?_
 rintro e w2 ⟨rfl,hA⟩
 have HA:=hid (hA.from HKS.out)
 clear hA a0 a1 a2 a3 a4 a5 a6 a7
 go_wp2_with fail
 go_ret2
 exact ⟨by rw [← HN1.out,← HN2.out];rfl,HA.out⟩
theorem rapply_9 {w:World} {Z:Nat→Prop} {q:Nat} {I:Im} (hi:DImg w Z q I) {v:Value} {r:Rc} (hr:RecM w v r) (hnz:InR (fun k=>¬ Z k) v r) (ha:I.applied<1000000000000) (hk:r.kind=9):Calls Tryz.prog 13 #[.pointer (some ⟨q,0,none⟩),v] w fun e w'=>e=.returned (.tuple #[.int .i64 (applyI I r).2.1,.int .i64 (applyI I r).2.2])∧DAfter Z w w' q (applyI I r).1:=by
 obtain ⟨la,lc,rfl,c0,f0,hql,hap,HXZ,HOKR,HH⟩:=rhead hi hr hnz ha
 obtain ⟨rk,ra,rb,rc,rd,rn,rt,rl⟩:=r
 simp only at hk ⊢
 obtain ⟨R,hR⟩:∃ R,R=applyI I ⟨rk,ra,rb,rc,rd,rn,rt,rl⟩:=⟨_,rfl⟩
 have HRE:Hid (R=doI (nextI I) ⟨rk,ra,rb,rc,rd,rn,rt,rl⟩):=hR
 rw [← hR]
 clear hR hi hr hnz
 have hqn:¬ q=w.heap.size:=by omega
 have hqn2:¬ w.heap.size=q:=by omega
 have hkk:rk=5∨rk=6∨rk=7∨rk=10∨rk=9:=by omega
 have HK:=hid hk
 have HKK:=hid hkk
 clear hk hkk
 have e0:R=turnI (nextI I) ⟨rk,ra,rb,rc,rd,rn,rt,rl⟩:=by
  have h9:=HK.out
  rw [HRE.out];unfold doI;simp only;rw [h9];simp
 have HE0:=hid e0
 clear e0
 go_enter Tryz.func13,Tryz.ntmps13
 go_upto_region 2 with fail
 refine at_world13 (F:=Code.wp _ _ _ _) (H13 w Z q I ⟨rk,ra,rb,rc,rd,rn,rt,rl⟩ la lc) HH.out ?_
 intro W hW
 have HI:=hid hW.1
 have HKS:=hid hW.2.1
 have HBX:=hid hW.2.2.1
 have HRM2:=hid hW.2.2.2
 simp only at HBX HRM2
 have HC:=hid (rturn_all HI.out HRM2.out HKK.out)
 obtain ⟨x,hx⟩:∃ x,x=w.heap.size:=⟨_,rfl⟩
 rw [← hx] at HBX HXZ ⊢
 clear c0 f0 hx hqn hqn2 hW HH
 obtain ⟨a0,a1,a2,a3,a4,a5,a6,a7⟩:=cells8 HBX.out
 have hk:=HK.out
 subst hk
 rw [← HE0.out] at HC
 obtain ⟨n1,hn1⟩:∃ n1,n1=R.2.1:=⟨_,rfl⟩
 obtain ⟨n2,hn2⟩:∃ n2,n2=R.2.2:=⟨_,rfl⟩
 rw [← hn1,← hn2] at HC
 have HN1:=hid hn1
 have HN2:=hid hn2
 clear HE0 HRE hn1 hn2
 go_wp2_with fail
 refine HC.out.mono ?_
 rintro e w2 ⟨rfl,hA⟩
 have HA:=hid (hA.from HKS.out)
 clear hA a0 a1 a2 a3 a4 a5 a6 a7
 go_wp2_with fail
 go_ret2
 exact ⟨by rw [← HN1.out,← HN2.out];rfl,HA.out⟩
theorem rapply_10 {w:World} {Z:Nat→Prop} {q:Nat} {I:Im} (hi:DImg w Z q I) {v:Value} {r:Rc} (hr:RecM w v r) (hnz:InR (fun k=>¬ Z k) v r) (ha:I.applied<1000000000000) (hk:r.kind=10):Calls Tryz.prog 13 #[.pointer (some ⟨q,0,none⟩),v] w fun e w'=>e=.returned (.tuple #[.int .i64 (applyI I r).2.1,.int .i64 (applyI I r).2.2])∧DAfter Z w w' q (applyI I r).1:=by
 obtain ⟨la,lc,rfl,c0,f0,hql,hap,HXZ,HOKR,HH⟩:=rhead hi hr hnz ha
 obtain ⟨rk,ra,rb,rc,rd,rn,rt,rl⟩:=r
 simp only at hk ⊢
 obtain ⟨R,hR⟩:∃ R,R=applyI I ⟨rk,ra,rb,rc,rd,rn,rt,rl⟩:=⟨_,rfl⟩
 have HRE:Hid (R=doI (nextI I) ⟨rk,ra,rb,rc,rd,rn,rt,rl⟩):=hR
 rw [← hR]
 clear hR hi hr hnz
 have hqn:¬ q=w.heap.size:=by omega
 have hqn2:¬ w.heap.size=q:=by omega
 have hkk:rk=5∨rk=6∨rk=7∨rk=10∨rk=9:=by omega
 have HK:=hid hk
 have HKK:=hid hkk
 clear hk hkk
 have e0:R=turnI (nextI I) ⟨rk,ra,rb,rc,rd,rn,rt,rl⟩:=by
  have h9:=HK.out
  rw [HRE.out];unfold doI;simp only;rw [h9];simp
 have HE0:=hid e0
 clear e0
 go_enter Tryz.func13,Tryz.ntmps13
 go_upto_region 2 with fail
 refine at_world13 (F:=Code.wp _ _ _ _) (H13 w Z q I ⟨rk,ra,rb,rc,rd,rn,rt,rl⟩ la lc) HH.out ?_
 intro W hW
 have HI:=hid hW.1
 have HKS:=hid hW.2.1
 have HBX:=hid hW.2.2.1
 have HRM2:=hid hW.2.2.2
 simp only at HBX HRM2
 have HC:=hid (rturn_all HI.out HRM2.out HKK.out)
 obtain ⟨x,hx⟩:∃ x,x=w.heap.size:=⟨_,rfl⟩
 rw [← hx] at HBX HXZ ⊢
 clear c0 f0 hx hqn hqn2 hW HH
 obtain ⟨a0,a1,a2,a3,a4,a5,a6,a7⟩:=cells8 HBX.out
 have hk:=HK.out
 subst hk
 rw [← HE0.out] at HC
 obtain ⟨n1,hn1⟩:∃ n1,n1=R.2.1:=⟨_,rfl⟩
 obtain ⟨n2,hn2⟩:∃ n2,n2=R.2.2:=⟨_,rfl⟩
 rw [← hn1,← hn2] at HC
 have HN1:=hid hn1
 have HN2:=hid hn2
 clear HE0 HRE hn1 hn2
 go_wp2_with fail
 refine HC.out.mono ?_
 rintro e w2 ⟨rfl,hA⟩
 have HA:=hid (hA.from HKS.out)
 clear hA a0 a1 a2 a3 a4 a5 a6 a7
 go_wp2_with fail
 go_ret2
 exact ⟨by rw [← HN1.out,← HN2.out];rfl,HA.out⟩
theorem yields_field32_2 {ops:Array Oper} {o:Oper} {a:Act} {S:World→Prop} (hg:o.guard=none) (x r:Nat) (ho:o.op=.fieldAddr 32 (.tmp x) 2) (hx:a.eval (.tmp x)=.pointer (some ⟨r,0,none⟩)):YieldsIf Tryz.prog ops S o (.pointer (some ⟨r,2,none⟩)) a:=by
 refine .inl ⟨by simp [Region.wanted,hg],fun w _=>?_⟩
 unfold execOp
 rw [ho]
 have hx':a.tmps[x]?.getD undef=.pointer (some ⟨r,0,none⟩):=by simpa [Act.eval] using hx
 go_simp
theorem yields_field32_3 {ops:Array Oper} {o:Oper} {a:Act} {S:World→Prop} (hg:o.guard=none) (x r:Nat) (ho:o.op=.fieldAddr 32 (.tmp x) 3) (hx:a.eval (.tmp x)=.pointer (some ⟨r,0,none⟩)):YieldsIf Tryz.prog ops S o (.pointer (some ⟨r,3,none⟩)) a:=by
 refine .inl ⟨by simp [Region.wanted,hg],fun w _=>?_⟩
 unfold execOp
 rw [ho]
 have hx':a.tmps[x]?.getD undef=.pointer (some ⟨r,0,none⟩):=by simpa [Act.eval] using hx
 go_simp
theorem yields_field34_1 {ops:Array Oper} {o:Oper} {a:Act} {S:World→Prop} (hg:o.guard=none) (x r:Nat) (ho:o.op=.fieldAddr 34 (.tmp x) 1) (hx:a.eval (.tmp x)=.pointer (some ⟨r,0,none⟩)):YieldsIf Tryz.prog ops S o (.pointer (some ⟨r,1,none⟩)) a:=by
 refine .inl ⟨by simp [Region.wanted,hg],fun w _=>?_⟩
 unfold execOp
 rw [ho]
 have hx':a.tmps[x]?.getD undef=.pointer (some ⟨r,0,none⟩):=by simpa [Act.eval] using hx
 go_simp
theorem yields_field34_5 {ops:Array Oper} {o:Oper} {a:Act} {S:World→Prop} (hg:o.guard=none) (x r:Nat) (ho:o.op=.fieldAddr 34 (.tmp x) 5) (hx:a.eval (.tmp x)=.pointer (some ⟨r,0,none⟩)):YieldsIf Tryz.prog ops S o (.pointer (some ⟨r,5,none⟩)) a:=by
 refine .inl ⟨by simp [Region.wanted,hg],fun w _=>?_⟩
 unfold execOp
 rw [ho]
 have hx':a.tmps[x]?.getD undef=.pointer (some ⟨r,0,none⟩):=by simpa [Act.eval] using hx
 go_simp
theorem yields_load9 {ops:Array Oper} {o:Oper} {a:Act} {S:World→Prop} (hg:o.guard=none) (x r f:Nat) (ho:o.op=.load 9 (.tmp x)) (hx:a.eval (.tmp x)=.pointer (some ⟨r,f,none⟩)) (v:Value) (hS:∀ w,S w→w.cell? ⟨r,f,none⟩=some v):YieldsIf Tryz.prog ops S o v a:=by
 refine .inl ⟨by simp [Region.wanted,hg],fun w hw=>?_⟩
 unfold execOp
 rw [ho]
 have hx':a.tmps[x]?.getD undef=.pointer (some ⟨r,f,none⟩):=by simpa [Act.eval] using hx
 have hc:=hS w hw
 go_simp
theorem yields_load29 {ops:Array Oper} {o:Oper} {a:Act} {S:World→Prop} (hg:o.guard=none) (x r f:Nat) (ho:o.op=.load 29 (.tmp x)) (hx:a.eval (.tmp x)=.pointer (some ⟨r,f,none⟩)) (v:Value) (hS:∀ w,S w→w.cell? ⟨r,f,none⟩=some v):YieldsIf Tryz.prog ops S o v a:=by
 refine .inl ⟨by simp [Region.wanted,hg],fun w hw=>?_⟩
 unfold execOp
 rw [ho]
 have hx':a.tmps[x]?.getD undef=.pointer (some ⟨r,f,none⟩):=by simpa [Act.eval] using hx
 have hc:=hS w hw
 go_simp
theorem yields_add {ops:Array Oper} {o:Oper} {a:Act} {S:World→Prop} (hg:o.guard=none) (x y:Nat) (n m:Int) (ho:o.op=.binOp .add 3 (.tmp x) (.tmp y) 3) (hx:a.eval (.tmp x)=.int .i64 n) (hy:a.eval (.tmp y)=.int .i64 m) (hw:IntKind.i64.wrap (n+m)=n+m):YieldsIf Tryz.prog ops S o (.int .i64 (n+m)) a:=by
 refine .inl ⟨by simp [Region.wanted,hg],fun w _=>?_⟩
 unfold execOp
 rw [ho]
 have hx':a.tmps[x]?.getD undef=.int .i64 n:=by simpa [Act.eval] using hx
 have hy':a.tmps[y]?.getD undef=.int .i64 m:=by simpa [Act.eval] using hy
 go_simp
theorem yields_index {ops:Array Oper} {o:Oper} {a:Act} {S:World→Prop} (hg:o.guard=none) (x b f n c:Nat) (ho:o.op=.indexAddr 23 (.tmp x) (.const (.int .i64 0))) (hx:a.eval (.tmp x)=.slice (some ⟨b,f,none⟩) n c) (hn:0<n):YieldsIf Tryz.prog ops S o (.pointer (some ⟨b,f,none⟩)) a:=by
 refine .inl ⟨by simp [Region.wanted,hg],fun w _=>?_⟩
 unfold execOp
 rw [ho]
 have hx':a.tmps[x]?.getD undef=.slice (some ⟨b,f,none⟩) n c:=by simpa [Act.eval] using hx
 have hn':(0:Int)<(n:Int):=by omega
 go_simp
theorem yields_build80 {ops:Array Oper} {o:Oper} {a:Act} {S:World→Prop} (hg:o.guard=none) (x y z:Nat) (s:ByteArray) (n m:Int) (ho:o.op=.build 80 #[(0,.tmp x),(1,.tmp y),(2,.tmp z)]) (hx:a.eval (.tmp x)=.string s) (hy:a.eval (.tmp y)=.int .i64 n) (hz:a.eval (.tmp z)=.int .i64 m):YieldsIf Tryz.prog ops S o (.agg #[.string s,.int .i64 n,.int .i64 m]) a:=by
 refine .inl ⟨by simp [Region.wanted,hg],fun w _=>?_⟩
 unfold execOp
 rw [ho]
 have hx':a.tmps[x]?.getD undef=.string s:=by simpa [Act.eval] using hx
 have hy':a.tmps[y]?.getD undef=.int .i64 n:=by simpa [Act.eval] using hy
 have hz':a.tmps[z]?.getD undef=.int .i64 m:=by simpa [Act.eval] using hz
 go_simp
theorem yields_build54 {ops:Array Oper} {o:Oper} {a:Act} {S:World→Prop} (hg:o.guard=none) (x0 x1 x4 x5 x8:Nat) (n0 n1 n8:Int) (a4 a5:Option Addr) (m4 c4 m5 c5:Nat) (ho:o.op=.build 54 #[(0,.tmp x0),(1,.tmp x1),(2,.const (.int .i64 1)),(3,.const (.int .i64 1)),(4,.tmp x4),(5,.tmp x5),(8,.tmp x8)]) (h0:a.eval (.tmp x0)=.int .i64 n0) (h1:a.eval (.tmp x1)=.int .i64 n1) (h4:a.eval (.tmp x4)=.slice a4 m4 c4) (h5:a.eval (.tmp x5)=.slice a5 m5 c5) (h8:a.eval (.tmp x8)=.int .i64 n8):YieldsIf Tryz.prog ops S o (.agg #[.int .i64 n0,.int .i64 n1,.int .i64 1,.int .i64 1,.slice a4 m4 c4,.slice a5 m5 c5,.slice none 0 0,.slice none 0 0,.int .i64 n8]) a:=by
 refine .inl ⟨by simp [Region.wanted,hg],fun w _=>?_⟩
 unfold execOp
 rw [ho]
 have e0:a.tmps[x0]?.getD undef=.int .i64 n0:=by simpa [Act.eval] using h0
 have e1:a.tmps[x1]?.getD undef=.int .i64 n1:=by simpa [Act.eval] using h1
 have e4:a.tmps[x4]?.getD undef=.slice a4 m4 c4:=by simpa [Act.eval] using h4
 have e5:a.tmps[x5]?.getD undef=.slice a5 m5 c5:=by simpa [Act.eval] using h5
 have e8:a.tmps[x8]?.getD undef=.int .i64 n8:=by simpa [Act.eval] using h8
 go_simp
theorem step_one29 {ops:Array Oper} {o:Oper} {a:Act} {w:World} {K:Act→World→Prop} {Q:Exit→Act→World→Prop} {E:Prop} (hg:o.guard=none) (x:Nat)
  (ho:o.op=.buildSlice 29 1 #[(0,.tmp x)]) (s:ByteArray) (c1 c2:Int) (hx:a.eval (.tmp x)=.agg #[.string s,.int .i64 c1,.int .i64 c2])
  (hK:K (a.put o.dst (.slice (some ⟨w.heap.size,0,none⟩) 1 1)) (w.alloc (.cells #[.string s,.int .i64 c1,.int .i64 c2] 80))) :
  if Region.wanted o (yielded ops a.tmps)=true then Oper.wp Tryz.prog o a w K Q else E:=by
 have hw:Region.wanted o (yielded ops a.tmps)=true:=by simp [Region.wanted,hg]
 rw [if_pos hw]
 unfold Oper.wp execOp
 rw [ho]
 have hx':a.tmps[x]?.getD undef=.agg #[.string s,.int .i64 c1,.int .i64 c2]:=by simpa [Act.eval] using hx
 go_simp
 exact hK
theorem step_none23 {ops:Array Oper} {o:Oper} {a:Act} {w:World} {K:Act→World→Prop} {Q:Exit→Act→World→Prop} {E:Prop} (hg:o.guard=none)
  (ho:o.op=.buildSlice 23 0 #[]) (hK:K (a.put o.dst (.slice (some ⟨w.heap.size,0,none⟩) 0 0)) (w.alloc (.cells #[] 3))) :
  if Region.wanted o (yielded ops a.tmps)=true then Oper.wp Tryz.prog o a w K Q else E:=by
 have hw:Region.wanted o (yielded ops a.tmps)=true:=by simp [Region.wanted,hg]
 rw [if_pos hw]
 unfold Oper.wp execOp
 rw [ho]
 go_simp
 exact hK
theorem step_store29 {ops:Array Oper} {o:Oper} {a:Act} {w:World} {K:Act→World→Prop} {Q:Exit→Act→World→Prop} {E:Prop} (hg:o.guard=none) (x y:Nat)
  (ho:o.op=.store 29 (.tmp x) (.tmp y)) (r f g n c:Nat) (hx:a.eval (.tmp x)=.pointer (some ⟨r,f,none⟩)) (hy:a.eval (.tmp y)=.slice (some ⟨g,0,none⟩) n c) (u:Value) (h1:w.cell? ⟨r,f,none⟩=some u) (h2:w.frozen? ⟨r,f,none⟩=false)
  (hK:K (a.put o.dst undef) (w.setCell ⟨r,f,none⟩ (.slice (some ⟨g,0,none⟩) n c))) :
  if Region.wanted o (yielded ops a.tmps)=true then Oper.wp Tryz.prog o a w K Q else E:=by
 have hw:Region.wanted o (yielded ops a.tmps)=true:=by simp [Region.wanted,hg]
 rw [if_pos hw]
 unfold Oper.wp execOp
 rw [ho]
 have hx':a.tmps[x]?.getD undef=.pointer (some ⟨r,f,none⟩):=by simpa [Act.eval] using hx
 have hy':a.tmps[y]?.getD undef=.slice (some ⟨g,0,none⟩) n c:=by simpa [Act.eval] using hy
 go_simp
 exact hK
theorem ButLast.store29 {md:Region.Mode} {ops:Array Oper} {Q:Exit→Act→World→Prop} {S:World→Prop} {z:Nat} (i:Nat) {o:Oper} {n:Nat} {gone:Array Bool} {a:Act} {w:World} (hr:Region.ready md ops gone=[i]) (ho:ops[i]?=some o) (hg:o.guard=none) (x y:Nat)
  (hop:o.op=.store 29 (.tmp x) (.tmp y)) (r f g m c:Nat) (hx:a.eval (.tmp x)=.pointer (some ⟨r,f,none⟩)) (hy:a.eval (.tmp y)=.slice (some ⟨g,0,none⟩) m c) (u:Value) (h1:w.cell? ⟨r,f,none⟩=some u) (h2:w.frozen? ⟨r,f,none⟩=false)
  (hS:i≠z→S (w.setCell ⟨r,f,none⟩ (.slice (some ⟨g,0,none⟩) m c))) (H:ButLast Tryz.prog md ops Q S z n (gone.setIfInBounds i true) (a.put o.dst undef) (w.setCell ⟨r,f,none⟩ (.slice (some ⟨g,0,none⟩) m c))):ButLast Tryz.prog md ops Q S z (n+1) gone a w :=
 ButLast.one i hr ho (fun K hK=>step_store29 hg x y hop r f g m c hx hy u h1 h2 (hK.out _ _ hS H))
end Go.Proofs.YtcffomhcmilcpaaGreat
