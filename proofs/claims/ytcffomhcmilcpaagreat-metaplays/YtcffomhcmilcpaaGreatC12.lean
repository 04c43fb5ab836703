/- A broker is registered. -/
import Derived.Test.YtcffomhcmilcpaaGreatC7
set_option maxRecDepth 100000
set_option maxHeartbeats 20000000
set_option linter.unusedVariables false
set_option linter.unusedSimpArgs false
namespace Go.Proofs.YtcffomhcmilcpaaGreat
open Go.RowKit Go.Maps
theorem kregister_any {w:World} {Z:Nat→Prop} {q:Nat} {I:Im} (hi:Img w Z q I) {v:Value} {r:Rc} (hr:RecM w v r):Calls Tryz.prog 68 #[.pointer (some ⟨q,0,none⟩),v] w fun e w'=>e=.returned (.tuple #[.int .i64 (registerI I r).2.1,.int .i64 (registerI I r).2.2])∧IAfter Z w w' q (registerI I r).1:=by
 obtain ⟨L,b,vt,vp,ve,ps,h,hz1,hz2,hz3⟩:=hi
 have HIMG:Hid (Img w Z q I):=⟨L,b,vt,vp,ve,ps,h,hz1,hz2,hz3⟩
 have HRM:=hid hr
 obtain ⟨⟨lv,rfl,hil⟩,ok,hname⟩:=hr
 obtain ⟨⟨la,lc,rfl,_⟩,_⟩:=hil
 obtain ⟨rk,ra,rb,rc,rd,rn,rt,rl⟩:=r
 simp only at ok hname HRM ⊢
 have oka:=ok.a
 have okb:=ok.b
 have okc:=ok.c
 simp only at oka okb okc
 have hbA:Below w.heap.size w (w.alloc (.cells (RV rk ra rb rc rd rn rt la rl.length lc) 34)):=(Below.refl _ _).alloc (Nat.le_refl _) _
 have HBA:=hid hbA
 have HI:=hid (h.under hbA)
 have HRM1:=hid (HRM.out.under hbA)
 have HIO:Hid (∀ w' J,IOut L (w.alloc (.cells (RV rk ra rb rc rd rn rt la rl.length lc) 34)) w' q b vt vp ve J→IAfter Z w w' q J):=fun w' J hJ=>hJ.after HIMG.out hz1 hz2 hbA
 have HIS:Hid (∀ w',Below (w.alloc (.cells (RV rk ra rb rc rd rn rt la rl.length lc) 34)).heap.size (w.alloc (.cells (RV rk ra rb rc rd rn rt la rl.length lc) 34)) w'→IAfter Z w w' q I):=fun w' hb=>HIMG.out.after (hbA.trans (hb.mono hbA.size))
 have hB:=heap_alloc_new w (.cells (RV rk ra rb rc rd rn rt la rl.length lc) 34)
 have hqlt:q<w.heap.size:=h.lt (.inl rfl)
 have HOW:Hid (∀ k,Own q b vt vp ve k→k<w.heap.size):=fun k hk=>h.lt hk
 have hWs:(w.alloc (.cells (RV rk ra rb rc rd rn rt la rl.length lc) 34)).heap.size=w.heap.size+1:=by simp
 obtain ⟨a0,a1,a2,a3,a4,a5,a6,a7⟩:=cells8 hB
 have HBX:=hid hB
 clear hbA hB h hz1 hz2 hz3 ok
 have HBR:=hid (fun V=>broker_any ra V oka)
 have HUT:=hid (fun V=>upTo_any rb 1000000000 V okb (by unfold I64;omega))
 have hlk:∀ V,Below (w.alloc (.cells (RV rk ra rb rc rd rn rt la rl.length lc) 34)).heap.size (w.alloc (.cells (RV rk ra rb rc rd rn rt la rl.length lc) 34)) V→(Instr.lookup 67 (.map (some b)) (.int .i64 ra) true).run Tryz.prog V=.ok (.tuple #[(valB I.brs ra).val,.bool (getB I.brs ra).isSome]) V:=fun V hV=>(HI.out.under hV).look_ok ra oka
 have c1:=HI.out.c1
 have HF:Hid (registerI I ⟨rk,ra,rb,rc,rd,rn,rt,rl⟩=if !upB ra 7 || !upB rb 1000000000 then (I,0,1) else if (getB I.brs ra).isSome && decide (rb≤(valB I.brs ra).life) then (I,0,13) else ((fun J:Im=>{ J with brs:=putB J.brs ra ⟨rb,false⟩ }) (if (valB I.brs ra).up then putOffI I ra else I),ra,0)):=rfl
 have HVL:Hid ((getB I.brs ra).isSome=true→1≤(valB I.brs ra).life∧(valB I.brs ra).life≤1000000000):=fun hs=>val_life HI.out.ok (by cases hg:getB I.brs ra with | none=>rw [hg] at hs;cases hs | some y=>rfl)
 have HVU:Hid ((valB I.brs ra).up=true→(getB I.brs ra).isSome=true):=fun hu=>by
  unfold valB at hu
  cases hg:getB I.brs ra with
  | none=>rw [hg] at hu;cases hu
  | some y=>rfl
 have HPO:Hid (∀ V,Below (w.alloc (.cells (RV rk ra rb rc rd rn rt la rl.length lc) 34)).heap.size (w.alloc (.cells (RV rk ra rb rc rd rn rt la rl.length lc) 34)) V→1≤ra∧ra≤7→(valB I.brs ra).up=true→Calls Tryz.prog 115 #[.pointer (some ⟨q,0,none⟩),.int .i64 ra] V fun e w'=>e=.returned (.tuple #[])∧IOut L V w' q b vt vp ve (putOffI I ra)):=fun V hV h1 hu=>putOff_any (HI.out.under hV) ra h1 (HVL.out (HVU.out hu))
 obtain ⟨⟨lf,bu⟩,hvb⟩:∃ y,valB I.brs ra=y:=⟨_,rfl⟩
 obtain ⟨kn,hkn⟩:∃ y,(getB I.brs ra).isSome=y:=⟨_,rfl⟩
 rw [hvb,hkn] at HF HVL HVU
 rw [hvb] at HPO
 simp only [hvb,hkn,Br.val] at hlk HVL HVU
 have hlf:I64 lf:=by
  cases kn with
  | true=>have:=HVL.out rfl;unfold I64;omega
  | false =>
   have e:lf=(valB I.brs ra).life:=by rw [hvb]
   unfold valB at e
   cases hg:getB I.brs ra with
   | none=>rw [hg] at e;rw [e];unfold I64 zeroB;simp
   | some y=>rw [hg] at hkn;cases hkn
 unfold I64 at oka okb hlf
 clear hvb hkn
 generalize registerI I ⟨rk,ra,rb,rc,rd,rn,rt,rl⟩=R at *
 go_enter Tryz.func68,Tryz.ntmps68
 go_upto_region 1 with fail
 generalize w.alloc (.cells (RV rk ra rb rc rd rn rt la rl.length lc) 34)=W at *
 obtain ⟨x,hx⟩:∃ x,x=w.heap.size:=⟨_,rfl⟩
 rw [← hx] at a0 a1 a2 a3 a4 a5 a6 a7 hWs hqlt HBX HOW ⊢
 clear hx
 have n1:¬ x=W.heap.size:=by omega
 have n2:¬ q=W.heap.size:=by omega
 have n5:x<W.heap.size:=by omega
 have n6:q<W.heap.size:=by omega
 have n3:¬ W.heap.size=x:=by omega
 have n4:¬ W.heap.size=q:=by omega
 have k1:=hlk _ (Below.refl _ W).drew
 have k2:=hlk _ (((Below.refl _ W).alloc (Nat.le_refl _) (.cells #[.int .i64 0,.bool false] 93)).drew)
 clear hlk
 go_cut [6,7] from 6 to 17 (fun s6 s7 W2=>s6=.pointer (some ⟨x+1,0,none⟩)∧s7=.bool kn∧Hid (W2.heap[x+1]?=some (.cells #[.int .i64 lf,.bool bu] 93)∧Below W.heap.size W W2))
 case first =>
  have HE:Hid (W.heap.size=x+1):=hWs
  clear hWs
  have HN:Hid ((W.alloc (.cells #[.int .i64 lf,.bool bu] 93)).heap[x+1]?=some (.cells #[.int .i64 lf,.bool bu] 93)∧Below W.heap.size W (W.alloc (.cells #[.int .i64 lf,.bool bu] 93)).drew):=by
   have:=heap_alloc_new W (.cells #[.int .i64 lf,.bool bu] 93)
   rw [HE.out] at this
   exact ⟨this,((Below.refl _ _).alloc (Nat.le_refl _) _).drew⟩
  go_region_with (fail)
  all_goals
   go_wp2_with fail
   go_meet
   case rel=>exact ⟨by rw [HE.out],rfl,HN.out⟩
 case rest =>
  obtain ⟨rfl,rfl,HC⟩:=hcut
  have b0:=cell_blk HC.out.1 0 _ rfl
  have b1:=cell_blk HC.out.1 1 _ rfl
  have f1:=kept_cell HC.out.2 a1
  have f2:=kept_cell HC.out.2 a2
  have HIC:=hid (HI.out.under HC.out.2)
  have HKC:Hid (Keeps (Own q b vt vp ve) W wc):=Keeps.of_below HC.out.2
  have HS:=hid (HIS.out wc HC.out.2)
  have HPC:=hid (HPO.out wc HC.out.2)
  clear a0 a1 a2 a3 a4 a5 a6 a7 k1 k2 c1 HC HPO
  cases hub:upB ra 7 with
  | false =>
   rw [hub] at HBR HF
   rw [if_pos (by simp)] at HF
   go_wp2_with (first | (go_at_call 91;refine (HBR.out _).mono ?_;rintro e w9 ⟨rfl,rfl⟩) | (go_at_call 67;refine (HUT.out _).mono ?_;rintro e w9 ⟨rfl,rfl⟩))
   go_ret2
   exact ⟨by rw [HF.out];rfl,by rw [HF.out];exact HS.out⟩
  | true =>
   rw [hub] at HBR HF
   obtain ⟨q1a,q1b⟩:=upB_iff.1 hub
   cases hub2:upB rb 1000000000 with
   | false =>
    rw [hub2] at HUT HF
    rw [if_pos (by simp)] at HF
    go_wp2_with (first | (go_at_call 91;refine (HBR.out _).mono ?_;rintro e w9 ⟨rfl,rfl⟩) | (go_at_call 67;refine (HUT.out _).mono ?_;rintro e w9 ⟨rfl,rfl⟩))
    go_ret2
    exact ⟨by rw [HF.out];rfl,by rw [HF.out];exact HS.out⟩
   | true =>
    rw [hub2] at HUT HF
    rw [if_neg (by simp)] at HF
    obtain ⟨q2a,q2b⟩:=upB_iff.1 hub2
    by_cases hfn:kn=true∧rb≤lf
    ·obtain ⟨rfl,hle⟩:=hfn
     rw [if_pos (by simp [hle])] at HF
     go_wp2_with (first | (go_at_call 91;refine (HBR.out _).mono ?_;rintro e w9 ⟨rfl,rfl⟩) | (go_at_call 67;refine (HUT.out _).mono ?_;rintro e w9 ⟨rfl,rfl⟩))
     go_ret2
     exact ⟨by rw [HF.out];rfl,by rw [HF.out];exact HS.out⟩
    ·rw [if_neg (by intro hh;simp at hh;exact hfn hh)] at HF
     have hfin:(kn && decide (rb≤lf))=false:=by cases kn with | false=>rfl | true=>simp;exact Int.not_le.1 (fun hh=>hfn ⟨rfl,hh⟩)
     cases bu with
     | false =>
      have LSUB:∀ j,L j→L j∨W.heap.size≤j:=fun j hj=>.inl hj
      clear HPC
      simp only [Bool.false_eq_true,if_false] at HF
      cases kn with
      | false =>
       go_upto_region 8 with (first | (go_at_call 91;refine (HBR.out _).mono ?_;rintro e w9 ⟨rfl,rfl⟩) | (go_at_call 67;refine (HUT.out _).mono ?_;rintro e w9 ⟨rfl,rfl⟩))
       obtain ⟨w8,hup,hI8,hg8⟩:=(HIC.out.under (Below.refl _ wc).drew).put (n:=ra) (x:=⟨rb,false⟩) ⟨q1a,q1b⟩ ⟨q2a,q2b⟩
       have HO8:Hid (IAfter Z w w8 q ({ I with brs:=putB I.brs ra ⟨rb,false⟩ })):=HIO.out w8 _ ⟨_,_,hI8,LSUB,(HKC.out.trans (Keeps.of_below (S:=fun _=>False) (Below.refl _ _).drew) (fun x hx=>hx.elim)).trans (Keeps.of_grown (S:=Own q b vt vp ve) hg8 (fun k hk=>by cases hk;exact .inr (.inl rfl))) (fun x hx=>.inl hx)⟩
       have e1:=HIC.out.c1
       have d:=(HKC.out.block x (by omega) (fun ho=>by have:=HOW.out x ho;omega)).trans HBX.out
       have d1:=cell_blk d 1 _ rfl
       have d2:=cell_blk d 2 _ rfl
       have d8:w8.cell? ⟨x,1,none⟩=some (.int .i64 ra):=cell_blk ((hg8.block x (Array.getElem?_eq_some_iff.1 d).1 (fun e=>by cases e;have:=HOW.out _ (.inr (.inl rfl));omega)).trans d) 1 _ rfl
       clear d hI8 hg8
       simp only [Br.val] at hup
       have hmn:=fun W r=>run_eql_map_nil (P:=Tryz.prog) W 67 3 93 r Tryz.underlying67
       go_wp2_with fail
       go_region_with (fail)
       all_goals
        go_wp2_with fail
        go_ret2
        exact ⟨by rw [HF.out];rfl,by rw [HF.out];exact HO8.out⟩
      | true =>
       have hgt:lf<rb:=Int.not_le.1 (fun hh=>hfn ⟨rfl,hh⟩)
       clear hfin
       go_upto_region 8 with (first | (go_at_call 91;refine (HBR.out _).mono ?_;rintro e w9 ⟨rfl,rfl⟩) | (go_at_call 67;refine (HUT.out _).mono ?_;rintro e w9 ⟨rfl,rfl⟩))
       obtain ⟨w8,hup,hI8,hg8⟩:=(HIC.out.under (Below.refl _ wc).drew).put (n:=ra) (x:=⟨rb,false⟩) ⟨q1a,q1b⟩ ⟨q2a,q2b⟩
       have HO8:Hid (IAfter Z w w8 q ({ I with brs:=putB I.brs ra ⟨rb,false⟩ })):=HIO.out w8 _ ⟨_,_,hI8,LSUB,(HKC.out.trans (Keeps.of_below (S:=fun _=>False) (Below.refl _ _).drew) (fun x hx=>hx.elim)).trans (Keeps.of_grown (S:=Own q b vt vp ve) hg8 (fun k hk=>by cases hk;exact .inr (.inl rfl))) (fun x hx=>.inl hx)⟩
       have e1:=HIC.out.c1
       have d:=(HKC.out.block x (by omega) (fun ho=>by have:=HOW.out x ho;omega)).trans HBX.out
       have d1:=cell_blk d 1 _ rfl
       have d2:=cell_blk d 2 _ rfl
       have d8:w8.cell? ⟨x,1,none⟩=some (.int .i64 ra):=cell_blk ((hg8.block x (Array.getElem?_eq_some_iff.1 d).1 (fun e=>by cases e;have:=HOW.out _ (.inr (.inl rfl));omega)).trans d) 1 _ rfl
       clear d hI8 hg8
       simp only [Br.val] at hup
       have hmn:=fun W r=>run_eql_map_nil (P:=Tryz.prog) W 67 3 93 r Tryz.underlying67
       go_wp2_with fail
       go_region_with (fail)
       all_goals
        go_wp2_with fail
        go_ret2
        exact ⟨by rw [HF.out];rfl,by rw [HF.out];exact HO8.out⟩
     | true =>
      have hk1:=HVU.out rfl
      subst hk1
      have hgt:lf<rb:=Int.not_le.1 (fun hh=>hfn ⟨rfl,hh⟩)
      clear hfin
      simp only [if_true] at HF
      have HPD:=hid (HPC.out ⟨q1a,q1b⟩ rfl)
      clear HPC
      go_wp2_with (first | (go_at_call 91;refine (HBR.out _).mono ?_;rintro e w9 ⟨rfl,rfl⟩) | (go_at_call 67;refine (HUT.out _).mono ?_;rintro e w9 ⟨rfl,rfl⟩))
      refine HPD.out.mono ?_
      rintro e w5 ⟨rfl,L',ps',i1,i2,i3⟩
      have HIC5:=hid i1
      have HKC5:Hid (Keeps (Own q b vt vp ve) W w5):=HKC.out.trans i3 (fun x hx=>.inl hx)
      have LSUB:∀ j,L' j→L j∨W.heap.size≤j:=fun j hj=>(i2 j hj).elim .inl (fun h=>.inr (Nat.le_trans HKC.out.size h))
      clear i1 i2 i3 HPD
      go_upto_region 8 with fail
      obtain ⟨w8,hup,hI8,hg8⟩:=(HIC5.out.under (Below.refl _ w5).drew).put (n:=ra) (x:=⟨rb,false⟩) ⟨q1a,q1b⟩ ⟨q2a,q2b⟩
      have HO8:Hid (IAfter Z w w8 q ({ (putOffI I ra) with brs:=putB (putOffI I ra).brs ra ⟨rb,false⟩ })):=HIO.out w8 _ ⟨_,_,hI8,LSUB,(HKC5.out.trans (Keeps.of_below (S:=fun _=>False) (Below.refl _ _).drew) (fun x hx=>hx.elim)).trans (Keeps.of_grown (S:=Own q b vt vp ve) hg8 (fun k hk=>by cases hk;exact .inr (.inl rfl))) (fun x hx=>.inl hx)⟩
      have e1:=HIC5.out.c1
      have d:=(HKC5.out.block x (by omega) (fun ho=>by have:=HOW.out x ho;omega)).trans HBX.out
      have d1:=cell_blk d 1 _ rfl
      have d2:=cell_blk d 2 _ rfl
      have d8:w8.cell? ⟨x,1,none⟩=some (.int .i64 ra):=cell_blk ((hg8.block x (Array.getElem?_eq_some_iff.1 d).1 (fun e=>by cases e;have:=HOW.out _ (.inr (.inl rfl));omega)).trans d) 1 _ rfl
      clear d hI8 hg8
      simp only [Br.val] at hup
      have hmn:=fun W r=>run_eql_map_nil (P:=Tryz.prog) W 67 3 93 r Tryz.underlying67
      go_wp2_with fail
      go_region_with (fail)
      all_goals
       go_wp2_with fail
       go_ret2
       exact ⟨by rw [HF.out];rfl,by rw [HF.out];exact HO8.out⟩
end Go.Proofs.YtcffomhcmilcpaaGreat
