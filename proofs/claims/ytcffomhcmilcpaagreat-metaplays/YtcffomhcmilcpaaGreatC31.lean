/- The chapter's examples. -/
import Derived.Test.YtcffomhcmilcpaaGreatC13
import Derived.Test.YtcffomhcmilcpaaGreatC25
import Derived.Test.YtcffomhcmilcpaaGreatC4
import Derived.ProofKit
import Derived.OpenShut
import Derived.ShutString
import Derived.ChangeOld
import Derived.SliceStrings
import Derived.SizedLaws
import Derived.Deep.Slices
import Derived.Lib.SmallJoins
import Derived.Test.YtcffomhcmilcpaaGreatC17
import Derived.Test.YtcffomhcmilcpaaGreatC22
import Derived.Test.YtcffomhcmilcpaaGreatC30
set_option maxRecDepth 100000
set_option maxHeartbeats 20000000
set_option linter.unusedVariables false
set_option linter.unusedSimpArgs false
namespace Go.Proofs.YtcffomhcmilcpaaGreat
open Go.RowKit Go.Maps
theorem noX:∀ (W:World) (k:Nat),(fun _:Nat=>False) k→k<W.heap.size:=fun _ _ h=>h.elim
theorem small (n:Int) (h:-1000≤n∧n≤1000):I64 n:=by unfold I64;omega
theorem app_sh (k:Nat) (h:k<4):(shI k).applied<1000000000000:=by
 have:k=0∨k=1∨k=2∨k=3:=by omega
 rcases this with rfl | rfl | rfl | rfl
 ·exact (by decide:(0:Int)<1000000000000)
 ·exact (by decide:(2:Int)<1000000000000)
 ·exact (by decide:(4:Int)<1000000000000)
 ·exact (by decide:(6:Int)<1000000000000)
theorem app_reg (k:Nat) (h:k<3):(applyI (shI k) (rcR 1 ((k:Int)+1) 1 0)).1.applied<1000000000000:=by
 have:k=0∨k=1∨k=2:=by omega
 rcases this with rfl | rfl | rfl
 ·exact (by decide:(1:Int)<1000000000000)
 ·exact (by decide:(3:Int)<1000000000000)
 ·exact (by decide:(5:Int)<1000000000000)
theorem res_4:applyI (shI 3) (rcR 4 2 2 1)=(sh4.1,1,0):=by show sh4=_;rw [← sh4_two]
theorem app_4:(shI 3).applied<1000000000000:=app_sh 3 (by omega)
theorem res_5:applyI sh4.1 (rcR 2 1 1 0)=(sh5.1,1,0):=by show sh5=_;rw [← sh5_two]
theorem app_5:sh4.1.applied<1000000000000:=(by decide:(7:Int)<1000000000000)
theorem res_6:applyI sh5.1 (rcR 1 1 1 0)=(sh6.1,0,13):=by show sh6=_;rw [← sh6_two]
theorem app_6:sh5.1.applied<1000000000000:=(by decide:(8:Int)<1000000000000)
theorem res_7:applyI sh6.1 (rcR 4 1 1 1)=(sh7.1,0,9):=by show sh7=_;rw [← sh7_two]
theorem app_7:sh6.1.applied<1000000000000:=by rw [sh6_app];decide
theorem res_8:applyI sh7.1 (rcR 8 0 0 0)=(sh8.1,1,0):=by show sh8=_;rw [← sh8_two]
theorem app_8:sh7.1.applied<1000000000000:=by rw [sh7_app];decide
theorem res_9:applyI sh8.1 (rcR 8 1 0 0)=(sh9.1,1,0):=by show sh9=_;rw [← sh9_two]
theorem app_9:sh8.1.applied<1000000000000:=by rw [sh8_app];decide
theorem shown_any (w:World):Calls Tryz.prog 9 #[] w fun e w'=>e=.returned (.bool true)∧Below w.heap.size w w':=by
 have HNEW:=hid (new_any w)
 go_enter Tryz.func9,Tryz.ntmps9
 go_wp2_with fail
 refine HNEW.out.mono ?_
 rintro e W0 ⟨rfl,hi0,hb0⟩
 have HS0:=hid (IS.new w (X:=fun _=>False) (Below.refl _ _) (noX w) hi0 hb0)
 clear hi0 hb0 HNEW
 generalize w.heap.size+1=q at *
 go_wp2_with fail
 go_loopg [2] 3 (fun kx s2 wr=>∃ k:Nat,k≤3∧3 - k≤kx∧s2=.int .i64 ((k:Int)+1)∧Hid (IS w wr q (shI k) (fun _=>False)))
 case atStart=>exact ⟨0,Nat.zero_le _,by omega,rfl,HS0.out⟩
 case round =>
  obtain ⟨k,hk,hkx,rfl,HS⟩:=hrel
  clear HS0
  by_cases hlt:k<3
  ·have H1:=hid (sh_reg k hlt)
   have H2:=hid (sh_unf k hlt)
   have HA1:=hid (app_sh k (by omega))
   have HA2:=hid (app_reg k hlt)
   obtain ⟨z,hz⟩:∃ z:Int,z=(k:Int)+1:=⟨_,rfl⟩
   have HSK:Hid (shI (k+1)=(applyI (applyI (shI k) (rcR 1 z 1 0)).1 (rcR 3 z 1 0)).1):=by show _=_;rw [hz];rfl
   have hz1:1≤z∧z≤3:=by omega
   obtain ⟨hza,hzb⟩:=hz1
   have HZ:=hid hz
   rw [← hz] at H1 H2 HA2 ⊢
   clear hz
   obtain ⟨J1,hJ1⟩:∃ J,J=applyI (shI k) (rcR 1 z 1 0):=⟨_,rfl⟩
   rw [← hJ1] at H1 H2 HSK HA2
   obtain ⟨J2,hJ2⟩:∃ J,J=applyI J1.1 (rcR 3 z 1 0):=⟨_,rfl⟩
   rw [← hJ2] at H2 HSK
   have HR1:Hid (applyI (shI k) (rcR 1 z 1 0)=(J1.1,z,0)):=by show _=_;rw [← hJ1,← H1.out]
   have HR2:Hid (applyI J1.1 (rcR 3 z 1 0)=(J2.1,z,0)):=by show _=_;rw [← hJ2,← H2.out]
   have HC1:Hid (∀ W,IS w W q (shI k) (fun _=>False)→Calls Tryz.prog 12 #[.pointer (some ⟨q,0,none⟩),recV 1 z 1 0] W fun e w'=>e=.returned (.tuple #[.int .i64 z,.int .i64 0])∧ISOut w W w' q J1.1 (fun _=>False)):=fun W h=>h.rec (noX W) HA1.out 1 z 1 0 (by omega) (small _ (by omega)) (small _ (by omega)) (small _ (by omega)) (small _ (by omega)) HR1.out
   have HC2:Hid (∀ W,IS w W q J1.1 (fun _=>False)→Calls Tryz.prog 12 #[.pointer (some ⟨q,0,none⟩),recV 3 z 1 0] W fun e w'=>e=.returned (.tuple #[.int .i64 z,.int .i64 0])∧ISOut w W w' q J2.1 (fun _=>False)):=fun W h=>h.rec (noX W) HA2.out 3 z 1 0 (by omega) (small _ (by omega)) (small _ (by omega)) (small _ (by omega)) (small _ (by omega)) HR2.out
   clear hJ1 hJ2 HR1 HR2 H1 H2 HA1 HA2
   have hz3:z≤3:=hzb
   go_wp2_with fail
   refine (rec_any 1 z 1 0 _).mono ?_
   rintro e w1 ⟨rfl,hb1⟩
   have HD1:=hid (HC1.out w1 (HS.out.under hb1))
   clear hb1 HC1 HS
   go_wp2_with fail
   refine HD1.out.mono ?_
   rintro e w2 ⟨rfl,ho2⟩
   have HS2:=hid ho2.1
   clear ho2 HD1
   go_wp2_with fail
   refine (rec_any 3 z 1 0 _).mono ?_
   rintro e w3 ⟨rfl,hb3⟩
   have HD2:=hid (HC2.out w3 (HS2.out.under hb3))
   clear hb3 HC2 HS2
   go_wp2_with fail
   refine HD2.out.mono ?_
   rintro e w4 ⟨rfl,ho4⟩
   have HS4:Hid (IS w w4 q (shI (k+1)) (fun _=>False)):=by show IS _ _ _ _ _;rw [HSK.out];exact ho4.1
   clear ho4 HD2 HSK
   have hwz:IntKind.i64.wrap (z+1)=z+1:=IntWalk.i64_in _ ⟨by omega,by omega⟩
   go_wp2_with fail
   go_roundg (3 - (k+1))
   case measure=>omega
   case rel=>exact ⟨k+1,by omega,Nat.le_refl _,by rw [HZ.out];push_cast;rfl,HS4.out⟩
  ·have hk3:k=3:=by omega
   subst hk3
   clear hlt hk hkx
   have HC4:Hid (∀ W,IS w W q (shI 3) (fun _=>False)→(∀ k,(fun _=>False) k→k<W.heap.size)→Calls Tryz.prog 12 #[.pointer (some ⟨q,0,none⟩),recV 4 2 2 1] W fun e w'=>e=.returned (.tuple #[.int .i64 1,.int .i64 0])∧ISOut w W w' q sh4.1 (fun _=>False)):=fun W h hX=>h.rec hX (app_4) 4 2 2 1 (by omega) (small _ (by omega)) (small _ (by omega)) (small _ (by omega)) (small _ (by omega)) res_4
   go_wp2_with fail
   refine (rec_any 4 2 2 1 _).mono ?_
   rintro e v4 ⟨rfl,hb⟩
   have HD:=hid (HC4.out v4 (HS.out.under hb) (noX _))
   have HBK:=hid hb
   clear hb HS
   go_wp2_with fail
   refine HD.out.mono ?_
   rintro e u4 ⟨rfl,ho⟩
   have HS4:=hid ho.1
   clear ho HD HBK
   have HP2:=hid (HS4.out.part 1 (newP 2 [2,3] 1) (by rw [sh4_part];rfl) 2 rfl)
   go_wp2_with fail
   refine HP2.out.mono ?_
   rintro e w5 ⟨pv,rfl,hp1,hp2,hb5⟩
   have HPM:=hid hp1
   obtain ⟨x1,y1,x2,y2,x3,y3,x4,y4,rfl,_⟩:=hp1.open
   have HS5:=hid (HS4.out.under hb5)
   clear hp1 hp2 hb5 HS4 HP2
   simp only [newP,headL,List.headD_cons,List.length_cons,List.length_nil,Nat.zero_add,Nat.reduceAdd]
   go_upto_region 13 with fail
   have HBX:=hid (heap_alloc_new w5 (.cells #[.int .i64 2,.int .i64 2,.int .i64 1,.int .i64 1,.slice x1 2 y1,.slice x2 2 y2,.slice x3 0 y3,.slice x4 0 y4,.int .i64 1] 54))
   have HS6:Hid (IS w (w5.alloc (.cells #[.int .i64 2,.int .i64 2,.int .i64 1,.int .i64 1,.slice x1 2 y1,.slice x2 2 y2,.slice x3 0 y3,.slice x4 0 y4,.int .i64 1] 54)) q sh4.1 (fun k=>k=w5.heap.size)):=(HS5.out.more (fun k hk=>.inr (by omega))).under ((Below.refl _ _).alloc (Nat.le_refl _) _)
   have HR6:Hid (IL (w5.alloc (.cells #[.int .i64 2,.int .i64 2,.int .i64 1,.int .i64 1,.slice x1 2 y1,.slice x2 2 y2,.slice x3 0 y3,.slice x4 0 y4,.int .i64 1] 54)) (.slice x2 2 y2) [2,3]):=by
    obtain ⟨a,b,c,d,e,_,j2,_⟩:=HPM.out.under ((Below.refl _ w5).alloc (Nat.le_refl _) (.cells #[.int .i64 2,.int .i64 2,.int .i64 1,.int .i64 1,.slice x1 2 y1,.slice x2 2 y2,.slice x3 0 y3,.slice x4 0 y4,.int .i64 1] 54))
    simp only [Value.agg.injEq] at e
    have e5:=congrArg (fun z=>z[5]?) e
    simp at e5
    rw [← e5] at j2
    exact j2
   generalize w5.alloc (.cells #[.int .i64 2,.int .i64 2,.int .i64 1,.int .i64 1,.slice x1 2 y1,.slice x2 2 y2,.slice x3 0 y3,.slice x4 0 y4,.int .i64 1] 54)=W6 at *
   obtain ⟨y,hy⟩:∃ y,y=w5.heap.size:=⟨_,rfl⟩
   rw [← hy] at HBX HS6 ⊢
   have hyw:w.heap.size≤y:=by rw [hy];exact HS5.out.below.size
   clear hy HS5 HPM
   have g5:=cell_blk HBX.out 5 _ rfl
   have hyl:=(Array.getElem?_eq_some_iff.1 HBX.out).1
   have hyn:¬ y=W6.heap.size:=by omega
   have HB6:Hid (Below W6.heap.size W6 (W6.alloc (.cells #[.int .i64 2,.int .i64 3] 3))):=(Below.refl _ _).alloc (Nat.le_refl _) _
   have HSL:=hid (sameList_any (HR6.out.under HB6.out) (il_lit [2,3] (heap_alloc_new W6 (.cells #[.int .i64 2,.int .i64 3] 3)) (fun x hx=>small _ (by simp at hx;omega)) (by simp)))
   have HT:Hid (decide (([2,3]:List Int)=[2,3])=true):=by show _=_;decide
   rw [HT.out] at HSL
   go_wp2_with fail
   refine HSL.out.mono ?_
   rintro e w7 ⟨rfl,hb7⟩
   have HS7:=hid (HS6.out.under (HB6.out.trans (hb7.mono HB6.out.size)))
   have HBX7:=hid (((HB6.out.trans (hb7.mono HB6.out.size)).block y hyl).trans HBX.out)
   have c1:=cell_blk HBX7.out 1 _ rfl
   clear hb7 HSL HB6 HR6 HS6 HBX g5 hyl hyn
   have HC5:Hid (∀ W,IS w W q sh4.1 (fun k=>k=y)→(∀ k,(fun k=>k=y) k→k<W.heap.size)→Calls Tryz.prog 12 #[.pointer (some ⟨q,0,none⟩),recV 2 1 1 0] W fun e w'=>e=.returned (.tuple #[.int .i64 1,.int .i64 0])∧ISOut w W w' q sh5.1 (fun k=>k=y)):=fun W h hX=>h.rec hX app_5 2 1 1 0 (by omega) (small _ (by omega)) (small _ (by omega)) (small _ (by omega)) (small _ (by omega)) res_5
   go_wp2_with fail
   refine (rec_any 2 1 1 0 _).mono ?_
   rintro e v5 ⟨rfl,hb⟩
   have HBV:=hid ((hb.block y (Array.getElem?_eq_some_iff.1 HBX7.out).1).trans HBX7.out)
   have HD:=hid (HC5.out v5 (HS7.out.under hb) (fun k hk=>by cases hk;exact (Array.getElem?_eq_some_iff.1 HBV.out).1))
   clear hb HS7 HC5 HBX7
   go_wp2_with fail
   refine HD.out.mono ?_
   rintro e u5 ⟨rfl,ho⟩
   have HS8:=hid ho.1
   have HBX8:=hid ((ho.2.1 y rfl).trans HBV.out)
   clear ho HD HBV
   clear c1
   have HP1:=hid (HS8.out.part 0 ⟨1,2,2,2,[2],[1,2],[],[],1⟩ (by rw [sh5_part];rfl) 1 rfl)
   go_wp2_with fail
   refine HP1.out.mono ?_
   rintro e w9 ⟨pv,rfl,hp1,hp2,hb9⟩
   have HPM:=hid hp1
   have HPN:=hid hp2
   obtain ⟨z1,t1,z2,t2,z3,t3,z4,t4,rfl,_⟩:=hp1.open
   have HS9:=hid (HS8.out.under hb9)
   have HBX9:=hid ((hb9.block y (Array.getElem?_eq_some_iff.1 HBX8.out).1).trans HBX8.out)
   have hyu:=(Array.getElem?_eq_some_iff.1 HBX8.out).1
   simp only [List.length_cons,List.length_nil,Nat.zero_add,Nat.reduceAdd]
   obtain ⟨k0,k1,k2,k3,k4,k5,k6,k7,k8⟩:=cells9 HBX9.out
   have fz:=frz_blk HBX9.out
   obtain ⟨N,hN⟩:∃ N,N=puts w9 y 0 [.int .i64 1,.int .i64 2,.int .i64 2,.int .i64 2,.slice z1 1 t1,.slice z2 2 t2,.slice z3 0 t3,.slice z4 0 t4,.int .i64 1]:=⟨_,rfl⟩
   have HPU:Hid (PutsR w9 N y 0 [.int .i64 1,.int .i64 2,.int .i64 2,.int .i64 2,.slice z1 1 t1,.slice z2 2 t2,.slice z3 0 t3,.slice z4 0 t4,.int .i64 1]):=by rw [hN];exact puts_all _ _ _ _
   have HN:=hid hN
   have HBN:=hid (HPU.out.box9 HBX9.out rfl)
   have HSN:Hid (IS w N q sh5.1 (fun k=>k=y)):=HS9.out.beside (HPU.out.keeps (S:=fun k=>k=y) rfl) (HPU.out.below HS9.out.below hyw)
   have HRN:Hid (IL N (.slice z1 1 t1) [2]):=by
    obtain ⟨a,b,c,d,e,j1,_⟩:=HPM.out.kept HPN.out (w':=N) (fun k hk=>HPU.out.other k (by omega)) (by rw [HPU.out.size];exact Nat.le_refl _)
    simp only [Value.agg.injEq] at e
    have e5:=congrArg (fun z=>z[4]?) e
    simp at e5
    rw [← e5] at j1
    exact j1
   go_upto_region 18 with fail
   show Code.wp Tryz.prog _ _ _ (puts w9 y 0 [.int .i64 1,.int .i64 2,.int .i64 2,.int .i64 2,.slice z1 1 t1,.slice z2 2 t2,.slice z3 0 t3,.slice z4 0 t4,.int .i64 1])
   rw [← HN.out]
   clear HN hN HPU HPM HPN HS9 HBX9 HS8 HBX8 HP1 hp1 hp2 hb9 k0 k1 k2 k3 k4 k5 k6 k7 k8 fz hyu
   have g4:=cell_blk HBN.out 4 _ rfl
   have hyl:=(Array.getElem?_eq_some_iff.1 HBN.out).1
   have hyn:¬ y=N.heap.size:=by omega
   have HB6:Hid (Below N.heap.size N (N.alloc (.cells #[.int .i64 2] 3))):=(Below.refl _ _).alloc (Nat.le_refl _) _
   have HSL:=hid (sameList_any (HRN.out.under HB6.out) (il_lit [2] (heap_alloc_new N (.cells #[.int .i64 2] 3)) (fun x hx=>small _ (by simp at hx;omega)) (by simp)))
   have HT2:Hid (decide (([2]:List Int)=[2])=true):=by show _=_;decide
   rw [HT2.out] at HSL
   go_wp2_with fail
   refine HSL.out.mono ?_
   rintro e w10 ⟨rfl,hb10⟩
   have HSA:=hid (HSN.out.under (HB6.out.trans (hb10.mono HB6.out.size)))
   have HBA:=hid (((HB6.out.trans (hb10.mono HB6.out.size)).block y hyl).trans HBN.out)
   clear hb10 HSL HB6 HRN HSN HBN g4 hyl hyn
   have HC6:Hid (∀ W,IS w W q sh5.1 (fun k=>k=y)→(∀ k,(fun k=>k=y) k→k<W.heap.size)→Calls Tryz.prog 12 #[.pointer (some ⟨q,0,none⟩),recV 1 1 1 0] W fun e w'=>e=.returned (.tuple #[.int .i64 0,.int .i64 13])∧ISOut w W w' q sh6.1 (fun k=>k=y)):=fun W h hX=>h.rec hX app_6 1 1 1 0 (by omega) (small _ (by omega)) (small _ (by omega)) (small _ (by omega)) (small _ (by omega)) res_6
   go_wp2_with fail
   refine (rec_any 1 1 1 0 _).mono ?_
   rintro e v6 ⟨rfl,hb⟩
   have HBV:=hid ((hb.block y (Array.getElem?_eq_some_iff.1 HBA.out).1).trans HBA.out)
   have HD:=hid (HC6.out v6 (HSA.out.under hb) (fun k hk=>by cases hk;exact (Array.getElem?_eq_some_iff.1 HBV.out).1))
   clear hb HSA HC6 HBA
   go_wp2_with fail
   refine HD.out.mono ?_
   rintro e u6 ⟨rfl,ho⟩
   have HSB:=hid ho.1
   have HBB:=hid ((ho.2.1 y rfl).trans HBV.out)
   clear ho HD HBV
   have HC7:Hid (∀ W,IS w W q sh6.1 (fun k=>k=y)→(∀ k,(fun k=>k=y) k→k<W.heap.size)→Calls Tryz.prog 12 #[.pointer (some ⟨q,0,none⟩),recV 4 1 1 1] W fun e w'=>e=.returned (.tuple #[.int .i64 0,.int .i64 9])∧ISOut w W w' q sh7.1 (fun k=>k=y)):=fun W h hX=>h.rec hX app_7 4 1 1 1 (by omega) (small _ (by omega)) (small _ (by omega)) (small _ (by omega)) (small _ (by omega)) res_7
   go_wp2_with fail
   refine (rec_any 4 1 1 1 _).mono ?_
   rintro e v7 ⟨rfl,hb⟩
   have HBV:=hid ((hb.block y (Array.getElem?_eq_some_iff.1 HBB.out).1).trans HBB.out)
   have HD:=hid (HC7.out v7 (HSB.out.under hb) (fun k hk=>by cases hk;exact (Array.getElem?_eq_some_iff.1 HBV.out).1))
   clear hb HSB HC7 HBB
   go_wp2_with fail
   refine HD.out.mono ?_
   rintro e u7 ⟨rfl,ho⟩
   have HSC:=hid ho.1
   have HBC:=hid ((ho.2.1 y rfl).trans HBV.out)
   clear ho HD HBV
   have HC8:Hid (∀ W,IS w W q sh7.1 (fun k=>k=y)→(∀ k,(fun k=>k=y) k→k<W.heap.size)→Calls Tryz.prog 12 #[.pointer (some ⟨q,0,none⟩),recV 8 0 0 0] W fun e w'=>e=.returned (.tuple #[.int .i64 1,.int .i64 0])∧ISOut w W w' q sh8.1 (fun k=>k=y)):=fun W h hX=>h.rec hX app_8 8 0 0 0 (by omega) (small _ (by omega)) (small _ (by omega)) (small _ (by omega)) (small _ (by omega)) res_8
   go_wp2_with fail
   refine (rec_any 8 0 0 0 _).mono ?_
   rintro e v8 ⟨rfl,hb⟩
   have HBV:=hid ((hb.block y (Array.getElem?_eq_some_iff.1 HBC.out).1).trans HBC.out)
   have HD:=hid (HC8.out v8 (HSC.out.under hb) (fun k hk=>by cases hk;exact (Array.getElem?_eq_some_iff.1 HBV.out).1))
   clear hb HSC HC8 HBC
   go_wp2_with fail
   refine HD.out.mono ?_
   rintro e u8 ⟨rfl,ho⟩
   have HSD:=hid ho.1
   have HBD:=hid ((ho.2.1 y rfl).trans HBV.out)
   clear ho HD HBV
   have HC9:Hid (∀ W,IS w W q sh8.1 (fun k=>k=y)→(∀ k,(fun k=>k=y) k→k<W.heap.size)→Calls Tryz.prog 12 #[.pointer (some ⟨q,0,none⟩),recV 8 1 0 0] W fun e w'=>e=.returned (.tuple #[.int .i64 1,.int .i64 0])∧ISOut w W w' q sh9.1 (fun k=>k=y)):=fun W h hX=>h.rec hX app_9 8 1 0 0 (by omega) (small _ (by omega)) (small _ (by omega)) (small _ (by omega)) (small _ (by omega)) res_9
   go_wp2_with fail
   refine (rec_any 8 1 0 0 _).mono ?_
   rintro e v9 ⟨rfl,hb⟩
   have HBV:=hid ((hb.block y (Array.getElem?_eq_some_iff.1 HBD.out).1).trans HBD.out)
   have HD:=hid (HC9.out v9 (HSD.out.under hb) (fun k hk=>by cases hk;exact (Array.getElem?_eq_some_iff.1 HBV.out).1))
   clear hb HSD HC9 HBD
   go_wp2_with fail
   refine HD.out.mono ?_
   rintro e u9 ⟨rfl,ho⟩
   have HSE:=hid ho.1
   have HBE:=hid ((ho.2.1 y rfl).trans HBV.out)
   clear ho HD HBV
   have HAP:=hid HSE.out.applied
   rw [sh9_app] at HAP
   have m1:=cell_blk HBE.out 1 _ rfl
   have m2:=cell_blk HBE.out 2 _ rfl
   have m3:=cell_blk HBE.out 3 _ rfl
   go_wp2_with fail
   refine HAP.out.mono ?_
   rintro e w11 ⟨rfl,rfl⟩
   go_wp2_with fail
   go_ret
   exact ⟨rfl,HSE.out.below⟩
end Go.Proofs.YtcffomhcmilcpaaGreat
namespace Go.Proofs.YtcffomhcmilcpaaGreat
open Go.ChangeShapes Go.WideShapes Go.ChangeAt Go.RowKit
theorem own:ownKnob Tryz.prog.godebug=none:=by kernel_rfl
theorem laidOut:laidOutB Tryz.prog=true:=by kernel_rfl
theorem ocells3:Tryz.prog.cellsOf 3=1:=by kernel_rfl
theorem ocells23:Tryz.prog.cellsOf 23=1:=by kernel_rfl
theorem obytes3:Tryz.prog.bytesOf 3=8:=by kernel_rfl
def Light {H:Type} (t:TypeId) (d:DataW H):Prop:=∀ n∈d.weights Tryz.prog t,n≤reachBytes
section
variable {H:Type} {enc:TypeId × Value→H} {w:World}
theorem list_of {fuel:Nat} {cs:List Value} {x:DataW H × List MemPlace} (h:DataW.trod enc Tryz.prog w 0 (fun _=>true) true fuel 23 cs=some x) (hw:Light 23 x.1) :
  ∃ a l c,cs=[.slice a (List.length l) c]∧IL w (.slice a (List.length l) c) l:=by
 rcases open_ints Tryz.underlying23 Tryz.underlying3 (by kernel_rfl) h with ⟨rfl,_⟩ | ⟨x0,len,cap,zs,rfl,_,hl,hm,hz,rfl,hcell,hwz⟩
 ·exact ⟨none,[],0,rfl,IL.nil _⟩
 ·simp only [if_true] at hz
  have hlen:(zs.take len).length=len:=by rw [List.length_take];omega
  have hwt:cap*8≤reachBytes:=by
   have:=hw (((lits (H:=H) .i64 (zs.take len)).length+(lits (H:=H) .i64 (zs.drop len)).length)*Tryz.prog.bytesOf 3) (by simp [DataW.weights,Tryz.underlying23])
   rw [obytes3] at this
   simp only [lits,List.length_map,List.length_take,List.length_drop] at this
   have e:min len zs.length+(zs.length - len)=cap:=by omega
   rw [e] at this
   exact this
  refine ⟨some x0,zs.take len,cap,by rw [hlen],?_⟩
  refine ⟨⟨some x0,cap,rfl,by omega,hm,(fun h=>by cases h),fun hne=>?_⟩,fun n hn=>?_,?_⟩
  ·obtain ⟨b,off,spot⟩:=x0
   have h0:0<zs.length:=by
    rcases Nat.eq_zero_or_pos zs.length with h | h
    ·exact absurd (by rw [List.eq_nil_of_length_eq_zero h];simp) hne
    ·exact h
   have hc:=hcell 0 h0
   cases spot with
   | some sp =>
    exfalso
    simp [World.cell?,Addr.add] at hc
    split at hc <;> simp_all
   | none =>
    refine ⟨b,off,rfl,World.block_lt_of_cell? w _ hc,fun j hj=>?_⟩
    have hjz:j<zs.length:=by rw [List.length_take] at hj;omega
    have h2:=hcell j hjz
    have e:(zs.take len)[j]=zs.getD j 0:=by simp [List.getD,hjz]
    rw [add_at] at h2
    rw [e]
    exact h2
  ·exact bounds_i64 (hwz n (List.mem_of_mem_take hn))
  ·rw [hlen]
   unfold reachBytes at hwt
   omega
theorem row_of {v:Value} {d:DataW H} {p:List MemPlace} {a:Option Addr} {len cap:Nat} (hv:v=.slice a len cap) (h:DataW.Trod enc Tryz.prog w 0 (fun _=>true) true 23 v d p) (hw:Light 23 d):∃ l:List Int,IL w v l:=by
 subst hv
 obtain ⟨fuel,hf⟩:=h
 obtain ⟨a',l,c,e,hi⟩:=list_of hf hw
 simp [Value.cells] at e
 obtain ⟨rfl,rfl,rfl⟩:=e
 exact ⟨l,hi⟩
theorem light_of {ts:List TypeId} {ds:List (DataW H)} (h:(DataW.weightsEach Tryz.prog ts ds).all (·≤reachBytes)=true) (j:Nat) {t:TypeId} {d:DataW H} (ht:ts[j]?=some t) (hd:ds[j]?=some d):Light t d:=fun n hn=>by
 have:=List.all_eq_true.1 h n (DataW.weights_mem_each ht hd n hn)
 simpa using this
end
theorem cells34 : Tryz.prog.cellsOf 34 = 8 := by kernel_rfl
theorem ocells9 : Tryz.prog.cellsOf 9 = 1 := by kernel_rfl
def RecC (w : World) (b o : Nat) (x : Rc) : Prop := ∃ la lc, w.cell? ⟨b, o, none⟩ = some (.int .i64 x.kind) ∧ w.cell? ⟨b, o + 1, none⟩ = some (.int .i64 x.a) ∧ w.cell? ⟨b, o + 2, none⟩ = some (.int .i64 x.b) ∧ w.cell? ⟨b, o + 3, none⟩ = some (.int .i64 x.c) ∧ w.cell? ⟨b, o + 4, none⟩ = some (.int .i64 x.d) ∧
  w.cell? ⟨b, o + 5, none⟩ = some (.string x.name) ∧ w.cell? ⟨b, o + 6, none⟩ = some (.string x.text) ∧ w.cell? ⟨b, o + 7, none⟩ = some (.slice la x.list.length lc) ∧ IL w (.slice la x.list.length lc) x.list ∧ RcOk x ∧ x.name.size ≤ maxLen
theorem RecC.under {w w' : World} {b o : Nat} {x : Rc} (h : RecC w b o x) (hb : Below w.heap.size w w') : RecC w' b o x := by
  obtain ⟨la, lc, h0, h1, h2, h3, h4, h5, h6, h7, h8, h9⟩ := h
  exact ⟨la, lc, kept_cell hb h0, kept_cell hb h1, kept_cell hb h2, kept_cell hb h3, kept_cell hb h4, kept_cell hb h5, kept_cell hb h6, kept_cell hb h7, h8.under hb, h9⟩
structure Script (w : World) (v : Value) (ops : List Rc) : Prop where
  shape : ∃ so cap, v = .slice so ops.length cap ∧ (ops ≠ [] → ∃ b off, so = some ⟨b, off, none⟩ ∧ ∀ i (hi : i < ops.length), RecC w b (off + i * 8) ops[i])
  len : ops.length ≤ maxLen
section
variable {H : Type} {enc : TypeId × Value → H} {w : World}
theorem weightsAll_mem {e : TypeId} : ∀ {l : List (DataW H)} {d : DataW H}, d ∈ l → ∀ n ∈ d.weights Tryz.prog e, n ∈ DataW.weightsAll Tryz.prog e l
  | x :: r, d, hd, n, hn => by
    simp only [DataW.weightsAll, List.mem_append]
    rcases List.mem_cons.1 hd with rfl | h
    · exact .inl hn
    · exact .inr (weightsAll_mem h n hn)
theorem light_rec {xs : List (DataW H × List MemPlace)} (hw : Light 34 (.agg (xs.map (·.1)) : DataW H)) (j : Nat) (t : TypeId) (ht : ([3, 3, 3, 3, 3, 9, 9, 23] : List TypeId)[j]? = some t) (y : DataW H × List MemPlace) (hy : xs[j]? = some y) : Light t y.1 := by
  intro n hn
  refine hw n ?_
  have e : (DataW.agg (xs.map (·.1)) : DataW H).weights Tryz.prog 34 = DataW.weightsEach Tryz.prog [3, 3, 3, 3, 3, 9, 9, 23] (xs.map (·.1)) := by
    simp only [DataW.weights, Tryz.underlying34]; rfl
  rw [e]
  exact DataW.weights_mem_each ht (by simp [hy]) n hn
theorem rec_of {fuel : Nat} {cs : List Value} {x : DataW H × List MemPlace} (h : DataW.trod enc Tryz.prog w 0 (fun _ => true) true fuel 34 cs = some x) (hw : Light 34 x.1) :
    ∃ (o : Rc) (la : Option Addr) (lc : Nat), cs = [.int .i64 o.kind, .int .i64 o.a, .int .i64 o.b, .int .i64 o.c, .int .i64 o.d, .string o.name, .string o.text, .slice la o.list.length lc] ∧ IL w (.slice la o.list.length lc) o.list ∧ RcOk o ∧ o.name.size ≤ maxLen := by
  obtain ⟨xs, n, _, rfl, hl, hlen, hf⟩ := DataW.trod_struct Tryz.underlying34 h
  rw [cells34] at hl
  match cs, hl, xs, hlen with
  | [c0, c1, c2, c3, c4, c5, c6, c7], _, [y0, y1, y2, y3, y4, y5, y6, y7], _ =>
    have h0 := hf 0 _ rfl
    have h1 := hf 1 _ rfl
    have h2 := hf 2 _ rfl
    have h3 := hf 3 _ rfl
    have h4 := hf 4 _ rfl
    have h5 := hf 5 _ rfl
    have h6 := hf 6 _ rfl
    have h7 := hf 7 _ rfl
    simp only [ocells3, ocells9, ocells23, List.drop_zero, List.drop_succ_cons, List.take_succ_cons, List.take_zero, List.getElem?_cons_zero, List.getElem?_cons_succ] at h0 h1 h2 h3 h4 h5 h6 h7
    obtain ⟨s0, e0, _, w0⟩ := DataW.trod_int Tryz.underlying3 h0
    obtain ⟨s1, e1, _, w1⟩ := DataW.trod_int Tryz.underlying3 h1
    obtain ⟨s2, e2, _, w2⟩ := DataW.trod_int Tryz.underlying3 h2
    obtain ⟨s3, e3, _, w3⟩ := DataW.trod_int Tryz.underlying3 h3
    obtain ⟨s4, e4, _, w4⟩ := DataW.trod_int Tryz.underlying3 h4
    obtain ⟨s5, e5, _, w5⟩ := DataW.trod_string Tryz.underlying9 h5
    obtain ⟨s6, e6, _, w6⟩ := DataW.trod_string Tryz.underlying9 h6
    obtain ⟨a7, l7, k7, e7, i7⟩ := list_of h7 (light_rec hw 7 23 rfl _ rfl)
    simp [ocells3, ocells9, ocells23] at e0 e1 e2 e3 e4 e5 e6 e7
    subst e0 e1 e2 e3 e4 e5 e6 e7
    exact ⟨⟨s0, s1, s2, s3, s4, s5, s6, l7⟩, a7, k7, rfl, i7, ⟨bounds_i64 w0, bounds_i64 w1, bounds_i64 w2, bounds_i64 w3, bounds_i64 w4⟩, by simpa [Lit.wf] using w5⟩
theorem cellsUp {base : Nat} {a : Addr} {n : Nat} {cs : List Value} (h : w.cells? base a n = some cs) : cs.length = n ∧ ∀ (i : Nat) (c : Value), cs[i]? = some c → w.cell? (a.add i) = some c := by
  unfold World.cells? at h
  split at h
  · have step : ∀ (r : List Nat) (z : List Value), List.mapM (fun i => w.cell? (a.add i)) r = some z → z.length = r.length ∧ ∀ (i j : Nat) (c : Value), r[i]? = some j → z[i]? = some c → w.cell? (a.add j) = some c := by
      intro r
      induction r with
      | nil => intro z hz; have e : z = [] := by simpa using hz.symm
               subst e; exact ⟨rfl, fun i j c hi => by simp at hi⟩
      | cons x r ih =>
        intro z hz
        rw [List.mapM_cons] at hz
        obtain ⟨c, h1, h2⟩ := Option.bind_eq_some_iff.1 hz
        obtain ⟨t, h3, h4⟩ := Option.bind_eq_some_iff.1 h2
        have e : z = c :: t := (Option.some.inj h4).symm
        subst e
        obtain ⟨i1, i2⟩ := ih t h3
        refine ⟨by simp [i1], fun i j d hi hd => ?_⟩
        cases i with
        | zero => simp at hi hd; subst hi; subst hd; exact h1
        | succ i => exact i2 i j d (by simpa using hi) (by simpa using hd)
    obtain ⟨s1, s2⟩ := step _ _ h
    refine ⟨by simpa using s1, fun i c hi => s2 i i c ?_ hi⟩
    have := (List.getElem?_eq_some_iff.1 hi).1
    rw [s1] at this
    rw [List.getElem?_range (by simpa using this)]
  · cases h
theorem add_add (b o i j : Nat) : ((⟨b, o, none⟩ : Addr).add i).add j = ⟨b, o + i + j, none⟩ := by rw [add_at, add_at]
theorem script_of {v : Value} {d : DataW H} {p : List MemPlace} {a : Option Addr} {len cap : Nat} (hv : v = .slice a len cap) (h : DataW.Trod enc Tryz.prog w 0 (fun _ => true) true 22 v d p) (hw : Light 22 d) : ∃ ops : List Rc, Script w v ops := by
  subst hv
  obtain ⟨fuel, hf⟩ := h
  rcases Deep.open_slice Tryz.underlying22 hf with ⟨hcs, _⟩ | ⟨x, l, c, m, n, D, Pl, hcs, _, hl, hm, hmm, hx2, hx⟩
  · simp [Value.cells] at hcs
    obtain ⟨rfl, rfl, rfl⟩ := hcs
    exact ⟨[], ⟨none, 0, rfl, fun h => absurd rfl h⟩, Nat.zero_le _⟩
  · simp [Value.cells] at hcs
    obtain ⟨rfl, rfl, rfl⟩ := hcs
    simp only [if_true] at hmm
    subst hmm
    have hd : d = .slice ((List.range len).map D) ((List.range (m - len)).map fun j => D (len + j)) := congrArg Prod.fst hx2
    have hlt : ∀ i, i < len → Light 34 (D i) := fun i hi k hk => by
      refine hw k ?_
      rw [hd]
      simp only [DataW.weights, Tryz.underlying22, List.mem_cons, List.mem_append]
      exact .inr (.inl (weightsAll_mem (List.mem_map.2 ⟨i, List.mem_range.2 hi, rfl⟩) k hk))
    rw [cells34] at hx
    by_cases h0 : len = 0
    · subst h0
      exact ⟨[], ⟨some x, m, rfl, fun h => absurd rfl h⟩, Nat.zero_le _⟩
    · obtain ⟨b, off, spot⟩ := x
      have hspot : spot = none := by
        obtain ⟨cs', h1, h2⟩ := hx 0 (by omega)
        obtain ⟨o, la, lc, rfl, _⟩ := rec_of h2 (hlt 0 (by omega))
        have hc := (cellsUp h1).2 0 _ rfl
        have := World.cell?_spot hc
        simpa [Addr.add] using this
      subst hspot
      have hall : ∀ i, i < len → ∃ o : Rc, RecC w b (off + i * 8) o := fun i hi => by
        obtain ⟨cs', h1, h2⟩ := hx i (by omega)
        obtain ⟨o, la, lc, rfl, j1, j2, j3⟩ := rec_of h2 (hlt i hi)
        have hc := (cellsUp h1).2
        have g0 := hc 0 _ rfl
        have g1 := hc 1 _ rfl
        have g2 := hc 2 _ rfl
        have g3 := hc 3 _ rfl
        have g4 := hc 4 _ rfl
        have g5 := hc 5 _ rfl
        have g6 := hc 6 _ rfl
        have g7 := hc 7 _ rfl
        rw [add_add] at g0 g1 g2 g3 g4 g5 g6 g7
        exact ⟨o, la, lc, g0, g1, g2, g3, g4, g5, g6, g7, j1, j2, j3⟩
      have hV : ∃ V : Nat → Rc, ∀ i, i < len → RecC w b (off + i * 8) (V i) :=
        ⟨fun i => if hi : i < len then Classical.choose (hall i hi) else ⟨0, 0, 0, 0, 0, ⟨#[]⟩, ⟨#[]⟩, []⟩, fun i hi => by
          simp only [hi, dite_true]
          exact Classical.choose_spec (hall i hi)⟩
      obtain ⟨V, hV⟩ := hV
      refine ⟨(List.range len).map V, ⟨some ⟨b, off, none⟩, m, by simp, fun _ => ⟨b, off, rfl, fun i hi => ?_⟩⟩, by simp; omega⟩
      simp only [List.length_map, List.length_range] at hi
      simp only [List.getElem_map, List.getElem_range]
      exact hV i (by omega)
end
theorem RecC.rec {w : World} {b o : Nat} {x : Rc} {W : World} (h : RecC w b o x) (hb : Below w.heap.size w W) : ∃ la lc, RecM W (.agg #[.int .i64 x.kind, .int .i64 x.a, .int .i64 x.b, .int .i64 x.c, .int .i64 x.d, .string x.name, .string x.text, .slice la x.list.length lc]) x ∧ W.cell? ⟨b, o + 7, none⟩ = some (.slice la x.list.length lc) ∧ In (fun k => k < w.heap.size) (.slice la x.list.length lc) x.list := by
  obtain ⟨la, lc, h0, h1, h2, h3, h4, h5, h6, h7, h8, h9, h10⟩ := h
  refine ⟨la, lc, ⟨⟨_, rfl, h8.under hb⟩, h9, h10⟩, kept_cell hb h7, ?_⟩
  intro hne b2 off n c e
  obtain ⟨⟨a2, cap2, e2, _, _, _, hat⟩, _⟩ := h8
  obtain ⟨b3, off3, e3, hlt, _⟩ := hat hne
  rw [e2] at e
  simp only [Value.slice.injEq] at e
  rw [e3] at e
  simp at e
  omega
end Go.Proofs.YtcffomhcmilcpaaGreat
namespace Go.Proofs.YtcffomhcmilcpaaGreat
open Go.RowKit Go.Maps Go.Sort
def TI (w W:World) (q:Nat) (n:Int) (m:Nat) (bare:Bool):Prop:=∃ I,IS w W q I (fun _=>False)∧TopK n I∧(bare=true→Bare n I)∧I.applied=(m:Int)
theorem TI.rec {w W:World} {q:Nat} {n:Int} {m:Nat} (h:TI w W q n m true) (hm:m<1000) (a b:Int) (ha:a=1∨a=3) (hb:1≤b∧b≤n) (hn:n≤7) :
  Calls Tryz.prog 12 #[.pointer (some ⟨q,0,none⟩),recV a b 1 0] W fun e w'=>(∃ x y,e=.returned (.tuple #[.int .i64 x,.int .i64 y]))∧TI w w' q n (m+1) true:=by
 obtain ⟨I,h1,h2,h3,h4⟩:=h
 refine (h1.rec (noX W) (by omega) a b 1 0 (by omega) (by unfold I64;omega) (by unfold I64;omega) (by unfold I64;omega) (by unfold I64;omega) (J:=(applyI I (rcR a b 1 0)).1) (n:=(applyI I (rcR a b 1 0)).2.1) (m:=(applyI I (rcR a b 1 0)).2.2) rfl).mono ?_
 rintro e w' ⟨rfl,ho⟩
 have hbare:=bare_apply (r:=rcR a b 1 0) (h3 rfl) ha hb
 exact ⟨⟨_,_,rfl⟩,_,ho.1,hbare.1,fun _=>hbare,by rw [applied_apply,h4];push_cast;rfl⟩
theorem TI.topic {w W:World} {q:Nat} {n:Int} {m:Nat} (h:TI w W q n m false) (hm:m<1000) {v:Value} {r:Rc} (hr:RecM W v r) (hk:r.kind=4) (hl:InR (fun k=>k<w.heap.size∨False) v r) :
  Calls Tryz.prog 12 #[.pointer (some ⟨q,0,none⟩),v] W fun e w'=>(∃ x y,e=.returned (.tuple #[.int .i64 x,.int .i64 y]))∧TI w w' q n (m+1) false:=by
 obtain ⟨I,h1,h2,h3,h4⟩:=h
 refine (h1.put (noX W) (by omega) hr hl (J:=(applyI I r).1) (n:=(applyI I r).2.1) (m:=(applyI I r).2.2) rfl).mono ?_
 rintro e w' ⟨rfl,ho⟩
 exact ⟨⟨_,_,rfl⟩,_,ho.1,topk_topic h2 hk,(fun h=>by cases h),by rw [applied_apply,h4];push_cast;rfl⟩
theorem TI.under {w W W1:World} {q:Nat} {n:Int} {m:Nat} {b:Bool} (h:TI w W q n m b) (hb:Below W.heap.size W W1):TI w W1 q n m b:=by
 obtain ⟨I,h1,h2⟩:=h
 exact ⟨I,h1.under hb,h2⟩
theorem TI.more {w W:World} {q:Nat} {n:Int} {m:Nat} {b:Bool} (h:TI w W q n m b):TI w W q n m false:=by
 obtain ⟨I,h1,h2,h3,h4⟩:=h
 exact ⟨I,h1,h2,(fun h=>by cases h),h4⟩
theorem TI.below {w W:World} {q:Nat} {n:Int} {m:Nat} {b:Bool} (h:TI w W q n m b):Below w.heap.size w W:=by
 obtain ⟨I,h1,_⟩:=h
 exact h1.below
theorem PartsAt.get {B:Nat} {w:World} {v:Value} {P:List Pt} (h:PartsAt B w v P) (k:Nat) (hk:k<P.length):∃ g cap x,v=.slice (some ⟨g,0,none⟩) P.length cap∧PartM w x P[k]∧g<w.heap.size∧∀ t,t<9→∀ u,(pc x)[t]?=some u→w.cell? ⟨g,k*9+t,none⟩=some u:=by
 obtain ⟨ds,h1,h2,h3,h4⟩:=h
 obtain ⟨oa,cap,rfl,_,_,_,hat⟩:=row_shape h2
 obtain ⟨g,rfl⟩:=hat (by omega)
 have hl:ds.length=P.length:=by rw [← h1,List.length_map]
 have hkd:k<ds.length:=by omega
 have e:ds[k].2=P[k]:=by simp [← h1]
 have h9:∀ x∈ds,(pc x.1).length=9:=fun x hx=>pc_part (h3 x hx).1
 refine ⟨g,cap,ds[k].1,rfl,?_,row_lt h2 rfl,fun t ht u hu=>?_⟩
 ·rw [← e];exact (h3 ds[k] (List.getElem_mem hkd)).1
 ·have hc:=World.ownsRow.cells h2 (g:=g) rfl (k*9+t) u (by rw [flatP_get ds k t h9 ht,List.getElem?_eq_getElem hkd];exact hu)
  rw [add_at,Nat.zero_add] at hc
  exact hc
theorem PartsAt.shape {B:Nat} {w:World} {v:Value} {P:List Pt} (h:PartsAt B w v P):∃ oa cap,v=.slice oa P.length cap:=by
 obtain ⟨ds,h1,h2,h3,h4⟩:=h
 obtain ⟨oa,cap,rfl,_⟩:=row_shape h2
 exact ⟨oa,cap,rfl⟩
end Go.Proofs.YtcffomhcmilcpaaGreat
