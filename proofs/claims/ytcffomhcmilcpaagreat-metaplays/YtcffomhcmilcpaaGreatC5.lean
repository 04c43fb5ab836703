/- A state is put into its place. -/
import Derived.Test.YtcffomhcmilcpaaGreatC4
import Derived.Deep.CutRange
import Derived.Deep.CutBlock
set_option maxRecDepth 100000
set_option maxHeartbeats 20000000
set_option linter.unusedVariables false
set_option linter.unusedSimpArgs false
namespace Go.Proofs.YtcffomhcmilcpaaGreat
open Go.RowKit Go.Maps
theorem ImOk.part {I:Im} (h:ImOk I) {p:Pt} (hp:RightP p) (i:Nat) (hi:p.id=(i:Int)+1):ImOk { I with parts:=I.parts.set i p }:=by
 refine ⟨h.keys,h.brs,fun j r hr=>?_,by simpa using h.few,h.tops,h.name,h.nums,h.eps,h.epv,h.app⟩
 simp only [List.getElem?_set] at hr
 split at hr
 ·rename_i e
  split at hr
  ·cases hr
   subst e
   exact ⟨hp,hi⟩
  ·cases hr
 ·exact h.parts j r hr
theorem ImC.take {w N:World} {L X:Nat→Prop} {q b:Nat} {vt ve:Value} {g n cap:Nat} {ps:List (Value × Pt)} {I:Im} (h:ImC w L q b vt (.slice (some ⟨g,0,none⟩) n cap) ve ps I) {v:Value} {p:Pt} (hv:PartM w v p) (hX:InP X v p) (hXo:∀ k,X k→k<w.heap.size∧¬ Own q b vt (.slice (some ⟨g,0,none⟩) n cap) ve k)
  (hp:RightP p) (i:Nat) (hi:i<ps.length) (hid:p.id=(i:Int)+1) (hN:PutsR w N g (i*9) (pc v)):ImC N (fun k=>L k∨X k) q b vt (.slice (some ⟨g,0,none⟩) n cap) ve (ps.set i (v,p)) { I with parts:=I.parts.set i p }:=by
 have hg:Own q b vt (.slice (some ⟨g,0,none⟩) n cap) ve g:=.inr (.inr (.inr (.inl rfl)))
 have hgq:q≠g:=fun e=>h.ne_q.2.1 (by rw [e];rfl)
 have hgb:b≠g:=fun e=>h.ne_b.2.1 (by rw [e];rfl)
 have hs:w.heap.size≤N.heap.size:=by rw [hN.size];exact Nat.le_refl _
 refine ⟨(hN.other q hgq).trans h.cells,?_,row_kept h.tops (fun k hk=>hN.other k (fun e=>by subst e;exact h.ne_rows.1 hk rfl)),row_set h.parts h.part9 i hi (pc_part hv) hN,row_kept h.eps (fun k hk=>hN.other k (fun e=>by subst e;exact h.ne_rows.2.2 rfl hk)),fun x hx=>?_,?_,fun k hk=>?_,h.ok.part hp i hid⟩
 ·obtain ⟨es,clock,hm,r⟩:=h.bmap
  exact ⟨es,clock,(hN.other b hgb).trans hm,r⟩
 ·rcases List.mem_or_eq_of_mem_set hx with hx | rfl
  ·obtain ⟨h1,h2⟩:=h.each x hx
   exact ⟨h1.kept h2 (fun k hk=>hN.other k (fun e=>by subst e;exact (h.lists k hk).2 hg)) hs,h2.mono fun k hk=>.inl hk⟩
  ·exact ⟨hv.kept hX (fun k hk=>hN.other k (fun e=>by subst e;exact (hXo k hk).2 hg)) hs,hX.mono fun k hk=>.inr hk⟩
 ·rw [h.abs]
  simp [List.map_set]
 ·rw [hN.size]
  rcases hk with hk | hk
  ·exact h.lists k hk
  ·exact hXo k hk
theorem take_no {w:World} (q:Nat) {v:Value} {p:Pt} (hv:PartM w v p) (e:Int) (he:e≠0) (he2:I64 e):Calls Tryz.prog 117 #[.pointer (some ⟨q,0,none⟩),v,.int .i64 e] w fun r w'=>r=.returned (.tuple #[])∧Below w.heap.size w w':=by
 unfold I64 at he2
 obtain ⟨x1,y1,x2,y2,x3,y3,x4,y4,rfl,_⟩:=hv.open
 have he':(e == 0)=false:=by simp [he]
 go_enter Tryz.func117,Tryz.ntmps117
 go_wp2_with fail
 go_end0
 exact ⟨rfl,(Below.refl _ _).alloc (Nat.le_refl _) _⟩
theorem take_yes {w:World} {L X:Nat→Prop} {q b:Nat} {vt ve:Value} {g n cap:Nat} {ps:List (Value × Pt)} {I:Im} (h:ImC w L q b vt (.slice (some ⟨g,0,none⟩) n cap) ve ps I) {v:Value} {p:Pt} (hv:PartM w v p) (hX:InP X v p) (hXo:∀ k,X k→k<w.heap.size∧¬ Own q b vt (.slice (some ⟨g,0,none⟩) n cap) ve k)
  (hp:RightP p) (i:Nat) (hi:i<ps.length) (hid':p.id=(i:Int)+1):Calls Tryz.prog 117 #[.pointer (some ⟨q,0,none⟩),v,.int .i64 0] w fun r w'=>r=.returned (.tuple #[])∧ImC w' (fun k=>L k∨X k) q b vt (.slice (some ⟨g,0,none⟩) n cap) ve (ps.set i (v,p)) { I with parts:=I.parts.set i p }∧Keeps (fun k=>k=g) w w':=by
 have hn:n=ps.length:=by obtain ⟨_,_,e,_⟩:=row_shape h.parts;cases e;rfl
 obtain ⟨x1,y1,x2,y2,x3,y3,x4,y4,rfl,_⟩:=hv.open
 have hbA:Below w.heap.size w (w.alloc (.cells (PP p x1 y1 x2 y2 x3 y3 x4 y4) 54)):=(Below.refl _ _).alloc (Nat.le_refl _) _
 have HTK:Hid (∀ N,PutsR (w.alloc (.cells (PP p x1 y1 x2 y2 x3 y3 x4 y4) 54)) N g (i*9) [.int .i64 p.id,.int .i64 p.leader,.int .i64 p.epoch,.int .i64 p.ver,.slice x1 p.isr.length y1,.slice x2 p.reps.length y2,.slice x3 p.add.length y3,.slice x4 p.rem.length y4,.int .i64 p.min]→ImC N.drew (fun k=>L k∨X k) q b vt (.slice (some ⟨g,0,none⟩) n cap) ve (ps.set i (.agg (PP p x1 y1 x2 y2 x3 y3 x4 y4),p)) { I with parts:=I.parts.set i p }∧Keeps (fun k=>k=g) w N.drew):=fun N hN =>
  ⟨((h.under hbA).take (hv.under hbA) hX (fun k hk=>⟨Nat.lt_of_lt_of_le (hXo k hk).1 hbA.size,(hXo k hk).2⟩) hp i hi hid' hN).under (Below.refl _ _).drew,((Keeps.of_below hbA).trans (hN.keeps (S:=fun k=>k=g) rfl) (fun x hx=>.inl hx)).trans (Keeps.of_below (S:=fun k=>k=g) (Below.refl _ _).drew) (fun x hx=>.inl hx)⟩
 have hi7:i<16:=Nat.lt_of_lt_of_le hi (by have:=h.plen;have:=h.ok.few;omega)
 have hin:(i:Int)<(n:Int):=by omega
 have hglt:g<w.heap.size:=h.lt (.inr (.inr (.inr (.inl rfl))))
 have hqlt:q<w.heap.size:=h.lt (.inl rfl)
 have h1:=h.under hbA
 have c3:=h1.c3
 have hgq:¬ q=g:=fun e=>h.ne_q.2.1 (by rw [e];rfl)
 have hxi:ps[i]?=some ps[i]:=List.getElem?_eq_getElem hi
 have hr:=fun t ht u hu=>(h1.at_ i _ hxi t ht u hu)
 have hpm:=(h.each ps[i] (by simp)).1
 obtain ⟨cur,hcur⟩:=row_blk h1.parts (k:=g) rfl
 have fr:=fun j=>frz_blk hcur j
 obtain ⟨u1,u2,u3,u4,hu,_⟩:=hpm
 rw [hu] at hr
 generalize ps[i].2=po at *
 have hB:=heap_alloc_new w (.cells (PP p x1 y1 x2 y2 x3 y3 x4 y4) 54)
 have r0:=hr 0 (by decide) _ rfl
 have b0:=cell_blk hB 0 _ rfl
 have r1:=hr 1 (by decide) _ rfl
 have b1:=cell_blk hB 1 _ rfl
 have r2:=hr 2 (by decide) _ rfl
 have b2:=cell_blk hB 2 _ rfl
 have r3:=hr 3 (by decide) _ rfl
 have b3:=cell_blk hB 3 _ rfl
 have r4:=hr 4 (by decide) _ rfl
 have b4:=cell_blk hB 4 _ rfl
 have r5:=hr 5 (by decide) _ rfl
 have b5:=cell_blk hB 5 _ rfl
 have r6:=hr 6 (by decide) _ rfl
 have b6:=cell_blk hB 6 _ rfl
 have r7:=hr 7 (by decide) _ rfl
 have b7:=cell_blk hB 7 _ rfl
 have r8:=hr 8 (by decide) _ rfl
 have b8:=cell_blk hB 8 _ rfl
 rw [Nat.add_zero] at r0
 have f0:=fr (i*9)
 have f1:=fr (i*9+1)
 have f2:=fr (i*9+2)
 have f3:=fr (i*9+3)
 have f4:=fr (i*9+4)
 have f5:=fr (i*9+5)
 have f6:=fr (i*9+6)
 have f7:=fr (i*9+7)
 have f8:=fr (i*9+8)
 have hid2:p.id - 1=(i:Int):=by omega
 have hw1:IntKind.i64.wrap (p.id - 1)=(i:Int):=by rw [hid2];exact IntWalk.i64_in _ ⟨by omega,by omega⟩
 have hne2:¬ g=w.heap.size:=by omega
 have hne3:¬ w.heap.size=g:=by omega
 clear hr fr hu hxi h h1 hv hX hXo hcur hid' hid2 hB hbA hn hi hqlt hglt
 go_enter Tryz.func117,Tryz.ntmps117
 go_upto_region 2 with fail
 generalize w.alloc (.cells (PP p x1 y1 x2 y2 x3 y3 x4 y4) 54)=W at *
 obtain ⟨x,hx⟩:∃ x,x=w.heap.size:=⟨_,rfl⟩
 rw [← hx] at b0 b1 b2 b3 b4 b5 b6 b7 b8 hne2 hne3 ⊢
 clear hx
 have HEND:=hid (HTK.out (puts W g (i*9) [.int .i64 p.id,.int .i64 p.leader,.int .i64 p.epoch,.int .i64 p.ver,.slice x1 p.isr.length y1,.slice x2 p.reps.length y2,.slice x3 p.add.length y3,.slice x4 p.rem.length y4,.int .i64 p.min]) (puts_all [.int .i64 p.id,.int .i64 p.leader,.int .i64 p.epoch,.int .i64 p.ver,.slice x1 p.isr.length y1,.slice x2 p.reps.length y2,.slice x3 p.add.length y3,.slice x4 p.rem.length y4,.int .i64 p.min] W g (i*9)))
 go_region_with (fail)
 all_goals
  go_wp2_with fail
  go_end0
  exact ⟨rfl,HEND.out⟩
theorem refused_any {w:World} {L:Nat→Prop} {q b:Nat} {vt vp ve:Value} {ps:List (Value × Pt)} {I:Im} (h:ImC w L q b vt vp ve ps I) {v:Value} {r:Rc} (hr:RecM w v r) (up:Bool):Calls Tryz.prog 116 #[.pointer (some ⟨q,0,none⟩),v,.bool up] w fun e w'=>e=.returned (.int .i64 (refusedI I r up))∧Below w.heap.size w w':=by
 obtain ⟨⟨lv,rfl,hil⟩,ok,_⟩:=hr
 obtain ⟨⟨la,lc,rfl,_⟩,_⟩:=hil
 obtain ⟨rk,ra,rb,rc,rd,rn,rt,rl⟩:=r
 simp only at ok ⊢
 have oka:=ok.a
 have okb:=ok.b
 simp only at oka okb
 have HBR:=hid (fun W=>broker_any ra W oka)
 have HF:Hid (refusedI I ⟨rk,ra,rb,rc,rd,rn,rt,rl⟩ up=if !upB ra 7 then 1 else if (getB I.brs ra).isNone then 8 else if rb≠(valB I.brs ra).life then 13 else if (valB I.brs ra).up=up then 19 else 0):=rfl
 have hbA:Below w.heap.size w (w.alloc (.cells (RV rk ra rb rc rd rn rt la rl.length lc) 34)):=(Below.refl _ _).alloc (Nat.le_refl _) _
 have h1:=h.under hbA
 have hB:=heap_alloc_new w (.cells (RV rk ra rb rc rd rn rt la rl.length lc) 34)
 have c1:=h1.c1
 have hqlt:q<w.heap.size:=h.lt (.inl rfl)
 have hWs:(w.alloc (.cells (RV rk ra rb rc rd rn rt la rl.length lc) 34)).heap.size=w.heap.size+1:=by simp
 have HBA:=hid hbA
 have a1:=cell_blk hB 1 _ rfl
 have a2:=cell_blk hB 2 _ rfl
 have hlk:∀ V,Below w.heap.size w V→(Instr.lookup 67 (.map (some b)) (.int .i64 ra) true).run Tryz.prog V=.ok (.tuple #[(valB I.brs ra).val,.bool (getB I.brs ra).isSome]) V:=fun V hV=>(h.under hV).look_ok ra oka
 obtain ⟨⟨lf,bu⟩,hvb⟩:∃ x,x=valB I.brs ra:=⟨_,rfl⟩
 obtain ⟨kn,hkn⟩:∃ x,x=(getB I.brs ra).isSome:=⟨_,rfl⟩
 have hno:(getB I.brs ra).isNone=!kn:=by rw [hkn];cases getB I.brs ra <;> rfl
 rw [← hvb,hno] at HF
 rw [← hvb,← hkn] at hlk
 simp only [Br.val] at hlk
 have hlf:I64 lf:=by
  have e:lf=(valB I.brs ra).life:=by rw [← hvb]
  rw [e]
  unfold valB
  cases hg:getB I.brs ra with
  | none=>unfold I64 zeroB;simp
  | some x=>have:=(h.ok.brs _ (getB_mem hg)).2;simp only [Option.getD_some] at this ⊢;unfold I64;omega
 unfold I64 at oka okb hlf
 simp only at HF
 generalize refusedI I ⟨rk,ra,rb,rc,rd,rn,rt,rl⟩ up=R at *
 clear hvb hkn hno h h1 hB hbA ok
 go_enter Tryz.func116,Tryz.ntmps116
 go_upto_region 1 with fail
 generalize w.alloc (.cells (RV rk ra rb rc rd rn rt la rl.length lc) 34)=W at *
 have k1:=hlk _ HBA.out.drew
 have k2:=hlk _ (HBA.out.alloc (by omega) (.cells #[.int .i64 0,.bool false] 93)).drew
 clear hlk
 obtain ⟨x,hx⟩:∃ x,x=w.heap.size:=⟨_,rfl⟩
 rw [← hx] at a1 a2 hWs HBA hqlt ⊢
 have HX:=hid hx
 clear hx
 go_cut [7,8] from 7 to 18 (fun s7 s8 W2=>s7=.pointer (some ⟨x+1,0,none⟩)∧s8=.bool kn∧Hid (W2.heap[x+1]?=some (.cells #[.int .i64 lf,.bool bu] 93)∧Below (x+1) W W2))
 case first =>
  have HA:Hid (W.heap.size=x+1):=hWs
  have n1:¬ x=W.heap.size:=by omega
  have n2:¬ q=W.heap.size:=by omega
  have n3:¬ W.heap.size=x:=by omega
  have n4:¬ W.heap.size=q:=by omega
  have n5:x<W.heap.size:=by omega
  have n6:q<W.heap.size:=by omega
  clear hWs
  have HN:Hid ((W.alloc (.cells #[.int .i64 lf,.bool bu] 93)).heap[x+1]?=some (.cells #[.int .i64 lf,.bool bu] 93)∧Below (x+1) W (W.alloc (.cells #[.int .i64 lf,.bool bu] 93)).drew):=by
   have:=heap_alloc_new W (.cells #[.int .i64 lf,.bool bu] 93)
   rw [HA.out] at this
   exact ⟨this,((Below.refl _ _).alloc (by rw [HA.out];exact Nat.le_refl _) _).drew⟩
  have HE:Hid (W.heap.size=x+1):=HA
  go_region_with (fail)
  all_goals
   go_wp2_with fail
   go_meet
   case rel=>exact ⟨by rw [HE.out],rfl,HN.out⟩
 case rest =>
  obtain ⟨rfl,rfl,HC⟩:=hcut
  have b0:=cell_blk HC.out.1 0 _ rfl
  have b1:=cell_blk HC.out.1 1 _ rfl
  have a1':=kept_cell (HC.out.2.mono (by rw [hWs];exact Nat.le_refl _):Below W.heap.size W wc) a1
  have a2':=kept_cell (HC.out.2.mono (by rw [hWs];exact Nat.le_refl _):Below W.heap.size W wc) a2
  have HB2:Hid (Below w.heap.size w wc):=by
   have:=HBA.out.trans (HC.out.2.mono (by omega))
   rw [HX.out] at this
   exact this
  clear a1 a2 k1 k2 c1 HC
  cases hub:upB ra 7 with
  | false =>
   rw [hub] at HBR HF
   go_wp2_with fail
   refine (HBR.out _).mono ?_
   rintro e w1 ⟨rfl,rfl⟩
   go_wp2_with fail
   go_ret
   exact ⟨ret_int (by rw [HF.out];rfl),HB2.out⟩
  | true =>
   rw [hub] at HBR HF
   cases kn with
   | false =>
    go_wp2_with fail
    refine (HBR.out _).mono ?_
    rintro e w1 ⟨rfl,rfl⟩
    go_wp2_with fail
    go_ret
    exact ⟨ret_int (by rw [HF.out];rfl),HB2.out⟩
   | true =>
    by_cases h3:rb=lf
    ·have h3':(rb != lf)=false:=by simp [h3]
     have HE:=hid h3
     clear h3
     by_cases h4:bu=up
     ·have h4':(bu == up)=true:=by simp [h4]
      have HE4:=hid h4
      clear h4
      go_wp2_with fail
      refine (HBR.out _).mono ?_
      rintro e w1 ⟨rfl,rfl⟩
      go_wp2_with fail
      go_ret
      exact ⟨ret_int (by rw [HF.out];simp [HE.out,HE4.out]),HB2.out⟩
     ·have h4':(bu == up)=false:=by simp [h4]
      have HE4:=hid h4
      clear h4
      go_wp2_with fail
      refine (HBR.out _).mono ?_
      rintro e w1 ⟨rfl,rfl⟩
      go_wp2_with fail
      go_ret
      exact ⟨ret_int (by rw [HF.out];simp [HE.out,HE4.out]),HB2.out⟩
    ·have h3':(rb != lf)=true:=by simp [h3]
     have HE:=hid h3
     clear h3
     go_wp2_with fail
     refine (HBR.out _).mono ?_
     rintro e w1 ⟨rfl,rfl⟩
     go_wp2_with fail
     go_ret
     exact ⟨ret_int (by rw [HF.out];simp [HE.out]),HB2.out⟩
def stepK (f:Pt→Pt × Int) (k:Nat) (l:List Pt):List Pt:=(l.take k).map (stepP f)++l.drop k
theorem stepK_zero (f:Pt→Pt × Int) (l:List Pt):stepK f 0 l=l:=by simp [stepK]
theorem stepK_all (f:Pt→Pt × Int) (l:List Pt) (k:Nat) (h:l.length≤k):stepK f k l=l.map (stepP f):=by
 simp [stepK,List.take_of_length_le h,List.drop_of_length_le h]
theorem stepK_len (f:Pt→Pt × Int) (l:List Pt) (k:Nat):(stepK f k l).length=l.length:=by
 simp [stepK];omega
theorem stepK_at (f:Pt→Pt × Int) (l:List Pt) (k:Nat) (h:k<l.length):(stepK f k l)[k]?=some l[k]:=by
 unfold stepK
 rw [List.getElem?_append_right (by simp;exact Nat.min_le_left _ _)]
 simp [h,Nat.min_eq_left (Nat.le_of_lt h)]
theorem stepK_succ (f:Pt→Pt × Int) (l:List Pt) (k:Nat) (h:k<l.length):stepK f (k+1) l=(stepK f k l).set k (stepP f l[k]):=by
 unfold stepK
 rw [List.take_succ_eq_append_getElem h,List.map_append,List.set_append_right _ _ (by simp;exact Nat.min_le_left _ _)]
 have e:k - ((l.take k).map (stepP f)).length=0:=by simp;omega
 rw [e,List.drop_eq_getElem_cons h]
 simp only [List.set_cons_zero,List.map_cons,List.map_nil,List.append_assoc,List.singleton_append]
theorem stepP_no {f:Pt→Pt × Int} {p:Pt} (h:(f p).2≠0):stepP f p=p:=by unfold stepP;rw [if_neg h]
theorem stepP_yes {f:Pt→Pt × Int} {p:Pt} (h:(f p).2=0):stepP f p=(f p).1:=by unfold stepP;rw [if_pos h]
theorem stepK_no (f:Pt→Pt × Int) (l:List Pt) (k:Nat) (h:k<l.length) (hf:(f l[k]).2≠0):stepK f (k+1) l=stepK f k l:=by
 rw [stepK_succ f l k h,stepP_no hf]
 have:=stepK_at f l k h
 apply List.ext_getElem?
 intro i
 rw [List.getElem?_set]
 by_cases e:k=i
 ·subst e
  rw [if_pos rfl,this,if_pos (by rw [stepK_len];exact h)]
 ·rw [if_neg e]
structure LoopP (w wr:World) (L:Nat→Prop) (q b:Nat) (vt vp ve:Value) (I:Im) (f:Pt→Pt × Int) (k:Nat):Prop where
 im:∃ L' ps',ImC wr L' q b vt vp ve ps' { I with parts:=stepK f k I.parts }∧∀ j,L' j→L j∨w.heap.size≤j
 keeps:Keeps (Own q b vt vp ve) w wr
theorem InP.and {X Y:Nat→Prop} {v:Value} {p:Pt} (h:InP X v p) (h':InP Y v p):InP (fun k=>X k∧Y k) v p:=fun i l m ep a b c d n e=>by
 obtain ⟨h1,h2,h3,h4⟩:=h i l m ep a b c d n e
 obtain ⟨g1,g2,g3,g4⟩:=h' i l m ep a b c d n e
 exact ⟨fun hn b off n c e=>⟨h1 hn b off n c e,g1 hn b off n c e⟩,fun hn b off n c e=>⟨h2 hn b off n c e,g2 hn b off n c e⟩,fun hn b off n c e=>⟨h3 hn b off n c e,g3 hn b off n c e⟩,fun hn b off n c e=>⟨h4 hn b off n c e,g4 hn b off n c e⟩⟩
section
variable {w wr:World} {L:Nat→Prop} {q b:Nat} {vt vp ve:Value} {I:Im} {f:Pt→Pt × Int} {k:Nat}
theorem LoopP.start {ps:List (Value × Pt)} (h:ImC w L q b vt vp ve ps I):LoopP w w L q b vt vp ve I f 0 :=
 ⟨⟨L,ps,by rw [stepK_zero];exact h,fun j hj=>.inl hj⟩,Keeps.refl _ _⟩
theorem LoopP.under {w1:World} (h:LoopP w wr L q b vt vp ve I f k) (hb:Below wr.heap.size wr w1):LoopP w w1 L q b vt vp ve I f k:=by
 obtain ⟨⟨L',ps',h1,h2⟩,h3⟩:=h
 exact ⟨⟨L',ps',h1.under hb,h2⟩,h3.trans (Keeps.of_below (S:=fun _=>False) hb) (fun x hx=>hx.elim)⟩
theorem LoopP.cell (h:LoopP w wr L q b vt vp ve I f k):wr.cell? ⟨q,3,none⟩=some vp:=by
 obtain ⟨⟨L',ps',h1,h2⟩,h3⟩:=h;exact h1.c3
theorem LoopP.at_ {g n cap:Nat} (h:LoopP w wr L q b vt (.slice (some ⟨g,0,none⟩) n cap) ve I f k) (hk:k<I.parts.length) :
  ∃ v,PartM wr v I.parts[k]∧∀ t,t<9→∀ u,(pc v)[t]?=some u→wr.cell? ⟨g,k*9+t,none⟩=some u:=by
 obtain ⟨⟨L',ps',h1,h2⟩,h3⟩:=h
 have e:=stepK_at f I.parts k hk
 have e2:(ps'.map (·.2))[k]?=some I.parts[k]:=by rw [← h1.abs];exact e
 rw [List.getElem?_map] at e2
 obtain ⟨x,hx,hx2⟩:=Option.map_eq_some_iff.1 e2
 refine ⟨x.1,?_,fun t ht u hu=>h1.at_ k x hx t ht u hu⟩
 have:=(h1.each x (List.mem_of_getElem? hx)).1
 rw [hx2] at this
 exact this
theorem LoopP.ok (h:LoopP w wr L q b vt vp ve I f k):ImOk { I with parts:=stepK f k I.parts }:=by
 obtain ⟨⟨L',ps',h1,h2⟩,h3⟩:=h;exact h1.ok
theorem LoopP.next {g n cap:Nat} (h:LoopP w wr L q b vt (.slice (some ⟨g,0,none⟩) n cap) ve I f k) (hk:k<I.parts.length) {W:World} (hb:Below wr.heap.size wr W) {v:Value} {r:Pt × Int} (hr:r=f I.parts[k]) (hv:PartM W v r.1) (hX:InP (fun j=>wr.heap.size≤j) v r.1) (h64:I64 r.2) (hru:r.2=0→RightP r.1∧r.1.id=(k:Int)+1) :
  Calls Tryz.prog 117 #[.pointer (some ⟨q,0,none⟩),v,.int .i64 r.2] W fun e w'=>e=.returned (.tuple #[])∧LoopP w w' L q b vt (.slice (some ⟨g,0,none⟩) n cap) ve I f (k+1):=by
 have hU:=h.under hb
 by_cases h0:r.2=0
 ·obtain ⟨hR,hi⟩:=hru h0
  obtain ⟨⟨L',ps',h1,h2⟩,h3⟩:=hU
  have hlen:k<ps'.length:=by
   have:=h1.plen
   simp only [stepK_len] at this
   omega
  rw [h0]
  obtain ⟨⟨L0,ps0,h10,h20⟩,h30⟩:=h
  refine (take_yes (X:=fun j=>wr.heap.size≤j∧j<W.heap.size) h1 hv (hX.and hv.old) (fun j hj=>⟨hj.2,fun ho=>?_⟩) hR k hlen hi).mono ?_
  ·have:=h10.lt ho
   omega
  ·rintro e w' ⟨rfl,i1,i2⟩
   refine ⟨rfl,⟨⟨fun j=>L' j∨(wr.heap.size≤j∧j<W.heap.size),ps'.set k (v,r.1),?_,fun j hj=>?_⟩,h3.trans i2 (fun x hx=>.inl (by subst hx;exact .inr (.inr (.inr (.inl rfl)))))⟩⟩
   ·rw [stepK_succ f I.parts k hk,stepP_yes (by rw [← hr];exact h0),← hr]
    exact i1
   ·rcases hj with hj | hj
    ·exact h2 j hj
    ·exact .inr (Nat.le_trans h30.size hj.1)
 ·refine (take_no q hv r.2 h0 h64).mono ?_
  rintro e w' ⟨rfl,hb2⟩
  have hU2:=hU.under hb2
  obtain ⟨i1,i2⟩:=hU2
  refine ⟨rfl,⟨?_,i2⟩⟩
  rw [stepK_no f I.parts k hk (by rw [← hr];exact h0)]
  exact i1
end
def IOut (L:Nat→Prop) (w w':World) (q b:Nat) (vt vp ve:Value) (J:Im):Prop:=∃ L' ps',ImC w' L' q b vt vp ve ps' J∧(∀ j,L' j→L j∨w.heap.size≤j)∧Keeps (Own q b vt vp ve) w w'
theorem changed_code (p:Pt) (l:Int):I64 (changedP p l).2:=by
 rcases changed_cases p l with h | h <;> rw [h] <;> unfold I64 <;> simp
theorem fence_code (p:Pt) (b:Int) (up:List Int):I64 (fenceP p b up).2:=by
 unfold fenceP
 split
 ·unfold I64;simp
 ·split
  ·unfold I64;simp
  ·exact changed_code _ _
theorem back_code (p:Pt) (b:Int):I64 (backP p b).2:=by
 unfold backP
 split
 ·unfold I64;simp
 ·split
  ·unfold I64;simp
  ·exact changed_code _ _
theorem fence_ok {p:Pt} {b:Int} {up:List Int} (hp:RightP p) (h:(fenceP p b up).2=0):RightP (fenceP p b up).1∧(fenceP p b up).1.id=p.id:=by
 have:=fence_rules (k:=0) hp (show fenceP p b up=((fenceP p b up).1,0) by rw [← h])
 refine ⟨this.1,?_⟩
 rcases this.2 with e | e
 ·rw [e]
 ·exact e.1
theorem back_ok {p:Pt} {b:Int} (hp:RightP p) (h:(backP p b).2=0):RightP (backP p b).1∧(backP p b).1.id=p.id:=by
 have:=back_rules (k:=0) hp (show backP p b=((backP p b).1,0) by rw [← h])
 refine ⟨this.1,?_⟩
 rcases this.2 with e | e
 ·rw [e]
 ·exact e.1
end Go.Proofs.YtcffomhcmilcpaaGreat
