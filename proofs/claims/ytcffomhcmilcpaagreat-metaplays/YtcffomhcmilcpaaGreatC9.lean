/- One record is applied;a partition is asked. -/
import Derived.Test.YtcffomhcmilcpaaGreatC7
import Derived.Deep.RegionHeld3
import Derived.Deep.AppendLies
import Derived.Test.YtcffomhcmilcpaaGreatC4
import Derived.Shelf.Pu.Clone
set_option maxRecDepth 100000
set_option maxHeartbeats 20000000
set_option linter.unusedVariables false
set_option linter.unusedSimpArgs false
namespace Go.Proofs.YtcffomhcmilcpaaGreat
open Go.RowKit Go.Maps
def PartOut (w w':World) (p:Pt) (e:Ending):Prop:=∃ v,e=.returned (.tuple #[v,.bool true])∧PartM w' v p∧InP (fun k=>w.heap.size≤k) v p∧Below w.heap.size w w'
theorem part_yes {w:World} {Z:Nat→Prop} {q:Nat} {I:Im} (hi:Img w Z q I) (i:Nat) (hil:i<I.parts.length):Calls Tryz.prog 30 #[.pointer (some ⟨q,0,none⟩),.int .i64 ((i:Int)+1)] w fun e w'=>PartOut w w' I.parts[i] e:=by
 obtain ⟨n,hn0⟩:∃ n:Int,n=(i:Int)+1:=⟨_,rfl⟩
 rw [← hn0]
 have hf0:=hi.ok.few
 have hn:I64 n:=by unfold I64;omega
 have h:upB n I.parts.length=true:=upB_iff.2 ⟨by omega,by omega⟩
 obtain ⟨L,b,vt,vp,ve,ps,h1,hz1,hz2,hz3⟩:=hi
 have HI:=hid h1
 have c3:=h1.c3
 obtain ⟨oa,cap,hvp,_,_,_,hat⟩:=row_shape h1.parts
 have hpl:=h1.plen
 rw [← hpl] at hvp hat
 subst hvp
 have hf:=h1.ok.few
 have hqlt:q<w.heap.size:=h1.lt (.inl rfl)
 have HU:=hid (fun V=>upTo_any n (I.parts.length:Int) V hn (by unfold I64;omega))
 rw [h] at HU
 obtain ⟨g,rfl⟩:=hat (by omega)
 have hbA:Below w.heap.size w (w.alloc (.cells PZ 54)):=(Below.refl _ _).alloc (Nat.le_refl _) _
 have h2:=h1.under hbA
 have hxi:ps[i]?=some ps[i]:=List.getElem?_eq_getElem (by rw [← hpl];exact hil)
 have hr:=fun t ht u hu=>(h2.at_ i _ hxi t ht u hu)
 have hpm:=(h2.each ps[i] (by simp)).1
 have hpp:ps[i].2=I.parts[i]:=by
  have e:(ps.map (·.2))[i]?=some I.parts[i]:=by rw [← h1.abs];exact List.getElem?_eq_getElem hil
  rw [List.getElem?_map,hxi] at e
  simpa using e
 rw [hpp] at hpm
 obtain ⟨x1,y1,x2,y2,x3,y3,x4,y4,hu,_⟩:=hpm.open
 rw [hu] at hr hpm
 have HPM:=hid hpm
 have HB:=hid (heap_alloc_new w (.cells PZ 54))
 have HBA:=hid hbA
 have d3:=h2.c3
 generalize I.parts[i]=P at *
 have r0:=hr 0 (by decide) _ rfl
 have r1:=hr 1 (by decide) _ rfl
 have r2:=hr 2 (by decide) _ rfl
 have r3:=hr 3 (by decide) _ rfl
 have r4:=hr 4 (by decide) _ rfl
 have r5:=hr 5 (by decide) _ rfl
 have r6:=hr 6 (by decide) _ rfl
 have r7:=hr 7 (by decide) _ rfl
 have r8:=hr 8 (by decide) _ rfl
 rw [Nat.add_zero] at r0
 have hil':(i:Int)<(I.parts.length:Int):=by omega
 have hwr:IntKind.i64.wrap (n - 1)=(i:Int):=by rw [show n - 1=(i:Int) by omega];exact IntWalk.i64_in _ ⟨by omega,by omega⟩
 have HCL:=hid (clone_any HPM.out)
 clear hr hpm hpp hxi h1 h2 h hz1 hz2 hz3 hu hbA hn0 hpl c3
 go_enter Tryz.func30,Tryz.ntmps30
 go_upto_region 1 with fail
 generalize w.alloc (.cells PZ 54)=W at *
 go_wp2_with (first | (go_at_call 67;refine (HU.out _).mono ?_;rintro e w9 ⟨rfl,rfl⟩) | (go_at_call 62;refine HCL.out.mono ?_;rintro e W1 ⟨v',rfl,hp1,hp2,hb1⟩;have HP1:=hid hp1;have HN1:=hid hp2;have HT1:=hid ((hb1.block w.heap.size (Array.getElem?_eq_some_iff.1 HB.out).1).trans HB.out);have HBW:=hid (HBA.out.trans (hb1.mono HBA.out.size));obtain ⟨u1,z1,u2,z2,u3,z3,u4,z4,rfl,_⟩:=hp1.open;have k0:=cell_blk HT1.out 0 _ rfl;have k1:=cell_blk HT1.out 1 _ rfl;have k2:=cell_blk HT1.out 2 _ rfl;have k3:=cell_blk HT1.out 3 _ rfl;have k4:=cell_blk HT1.out 4 _ rfl;have k5:=cell_blk HT1.out 5 _ rfl;have k6:=cell_blk HT1.out 6 _ rfl;have k7:=cell_blk HT1.out 7 _ rfl;have k8:=cell_blk HT1.out 8 _ rfl;have fz:=frz_blk HT1.out;clear hp2 hb1))
 obtain ⟨N,hN⟩:∃ N,N=puts W1 w.heap.size 0 [.int .i64 P.id,.int .i64 P.leader,.int .i64 P.epoch,.int .i64 P.ver,.slice u1 P.isr.length z1,.slice u2 P.reps.length z2,.slice u3 P.add.length z3,.slice u4 P.rem.length z4,.int .i64 P.min]:=⟨_,rfl⟩
 have HR:PutsR W1 N w.heap.size 0 [.int .i64 P.id,.int .i64 P.leader,.int .i64 P.epoch,.int .i64 P.ver,.slice u1 P.isr.length z1,.slice u2 P.reps.length z2,.slice u3 P.add.length z3,.slice u4 P.rem.length z4,.int .i64 P.min]:=by rw [hN];exact puts_all _ _ _ _
 show bodyPost Tryz.prog Tryz.f30 _ Exit.ret _ (puts W1 w.heap.size 0 [.int .i64 P.id,.int .i64 P.leader,.int .i64 P.epoch,.int .i64 P.ver,.slice u1 P.isr.length z1,.slice u2 P.reps.length z2,.slice u3 P.add.length z3,.slice u4 P.rem.length z4,.int .i64 P.min])
 rw [← hN]
 clear hN
 have hx:=HR.box9 HT1.out rfl
 obtain ⟨s0,s1,s2,s3,s4,s5,s6,s7,s8⟩:=cells9 hx
 exact bodyPost_ret (v:=.tuple #[.agg (PP P u1 z1 u2 z2 u3 z3 u4 z4),.bool true]) (by simp [results,Tryz.results30,go_sem,s0,s1,s2,s3,s4,s5,s6,s7,s8]) rfl ⟨_,rfl,HP1.out.kept HN1.out (fun k hk=>HR.other k (by have:=(Array.getElem?_eq_some_iff.1 HB.out).1;omega)) (by rw [HR.size];exact Nat.le_refl _),HN1.out.mono (fun k hk=>by have:=(Array.getElem?_eq_some_iff.1 HB.out).1;omega),HR.below HBW.out (Nat.le_refl _)⟩
theorem ImC.tick {w:World} {L:Nat→Prop} {q b:Nat} {vt vp ve:Value} {ps:List (Value × Pt)} {I:Im} (h:ImC w L q b vt vp ve ps I) (ha:I.applied<1000000000000):ImC (w.setCell ⟨q,0,none⟩ (.int .i64 (I.applied+1))) L q b vt vp ve ps (nextI I):=by
 have hk:∀ k,k≠q→(w.setCell ⟨q,0,none⟩ (.int .i64 (I.applied+1))).heap[k]?=w.heap[k]?:=fun k hk=>Below.heap_setCell _ _ _ _ hk
 refine ⟨set_box h.cells,?_,row_kept h.tops (fun k e=>hk k (fun e2=>h.ne_q.1 (by rw [← e2];exact e))),row_kept h.parts (fun k e=>hk k (fun e2=>h.ne_q.2.1 (by rw [← e2];exact e))),row_kept h.eps (fun k e=>hk k (fun e2=>h.ne_q.2.2 (by rw [← e2];exact e))),fun x hx=>?_,h.abs,fun k hk2=>by simpa using h.lists k hk2,⟨h.ok.keys,h.ok.brs,h.ok.parts,h.ok.few,h.ok.tops,h.ok.name,h.ok.nums,h.ok.eps,h.ok.epv,?_⟩⟩
 ·obtain ⟨es,clock,hm,r⟩:=h.bmap
  exact ⟨es,clock,(hk b (fun e=>h.ne_qb e.symm)).trans hm,r⟩
 ·obtain ⟨h1,h2⟩:=h.each x hx
  exact ⟨h1.kept h2 (fun k hk2=>hk k (fun e=>(h.lists k hk2).2 (.inl e))) (by simp),h2⟩
 ·have:=h.ok.app
  unfold nextI
  simp only
  omega
def InR (X:Nat→Prop) (v:Value) (r:Rc):Prop:=∀ k a b c d n t lv,v=.agg #[k,a,b,c,d,n,t,lv]→In X lv r.list
theorem enter_kind (k:Int) (vs:Array Value) (W:World) (hv:vs.size=2):Sem.run Tryz.prog (callFunc (kindF k) vs) W=.ok (.enter (kindF k) vs) W:=by
 unfold kindF
 split
 ·kernel_rfl
 ·split
  ·kernel_rfl
  ·split
   ·kernel_rfl
   ·split
    ·kernel_rfl
    ·split
     ·kernel_rfl
     ·split
      ·kernel_rfl
      ·kernel_rfl
theorem apply_of {w:World} {Z:Nat→Prop} {q:Nat} {I:Im} (hi:Img w Z q I) {v:Value} {r:Rc} (hr:RecM w v r) (hnz:InR (fun k=>¬ Z k) v r) (ha:I.applied<1000000000000)
  (H:∀ W,Img W Z q (nextI I)→RecM W v r→Calls Tryz.prog (kindF r.kind) #[.pointer (some ⟨q,0,none⟩),v] W fun e w'=>e=.returned (.tuple #[.int .i64 (doI (nextI I) r).2.1,.int .i64 (doI (nextI I) r).2.2])∧IAfter Z W w' q (doI (nextI I) r).1) :
  Calls Tryz.prog 12 #[.pointer (some ⟨q,0,none⟩),v] w fun e w'=>e=.returned (.tuple #[.int .i64 (applyI I r).2.1,.int .i64 (applyI I r).2.2])∧IAfter Z w w' q (applyI I r).1:=by
 show Calls Tryz.prog 12 #[.pointer (some ⟨q,0,none⟩),v] w fun e w'=>e=.returned (.tuple #[.int .i64 (doI (nextI I) r).2.1,.int .i64 (doI (nextI I) r).2.2])∧IAfter Z w w' q (doI (nextI I) r).1
 generalize doI (nextI I) r=R at *
 obtain ⟨L,b,vt,vp,ve,ps,h,hz1,hz2,hz3⟩:=hi
 obtain ⟨⟨lv,rfl,hil⟩,ok,hname⟩:=hr
 have hqlt:q<w.heap.size:=h.lt (.inl rfl)
 have hl1:IL (w.setCell ⟨q,0,none⟩ (.int .i64 (I.applied+1))) lv r.list:=hil.kept (hnz _ _ _ _ _ _ _ _ rfl) (fun k hk=>Below.heap_setCell _ _ _ _ (fun e=>hk (by rw [e];exact hz1 q (.inl rfl)))) (by simp)
 obtain ⟨⟨la,lc,rfl,_⟩,_⟩:=hil
 obtain ⟨rk,ra,rb,rc,rd,rn,rt,rl⟩:=r
 simp only at ok hname H hl1 ⊢
 have HKD:=hid (fun V=>kind_any rk V ok.kind)
 have hbA:Below w.heap.size (w.setCell ⟨q,0,none⟩ (.int .i64 (I.applied+1))) ((w.setCell ⟨q,0,none⟩ (.int .i64 (I.applied+1))).alloc (.cells (RV rk ra rb rc rd rn rt la rl.length lc) 34)):=by
  have:=(Below.refl (w.setCell ⟨q,0,none⟩ (.int .i64 (I.applied+1))).heap.size (w.setCell ⟨q,0,none⟩ (.int .i64 (I.applied+1)))).alloc (Nat.le_refl _) (.cells (RV rk ra rb rc rd rn rt la rl.length lc) 34)
  simpa using this
 have hbA':Below (w.setCell ⟨q,0,none⟩ (.int .i64 (I.applied+1))).heap.size (w.setCell ⟨q,0,none⟩ (.int .i64 (I.applied+1))) ((w.setCell ⟨q,0,none⟩ (.int .i64 (I.applied+1))).alloc (.cells (RV rk ra rb rc rd rn rt la rl.length lc) 34)):=by simpa using hbA
 have hT:=(h.tick ha).under hbA'
 have hK:Keeps Z w ((w.setCell ⟨q,0,none⟩ (.int .i64 (I.applied+1))).alloc (.cells (RV rk ra rb rc rd rn rt la rl.length lc) 34)):=(Keeps.set (S:=Z) w (a:=⟨q,0,none⟩) (hz1 q (.inl rfl)) _).trans (Keeps.of_below (S:=Z) hbA') (fun x hx=>.inl hx)
 have hIM:Img ((w.setCell ⟨q,0,none⟩ (.int .i64 (I.applied+1))).alloc (.cells (RV rk ra rb rc rd rn rt la rl.length lc) 34)) Z q (nextI I):=⟨L,b,vt,vp,ve,ps,hT,hz1,hz2,fun k hk=>by have:=hz3 k hk;simp;omega⟩
 have hIL:RecM ((w.setCell ⟨q,0,none⟩ (.int .i64 (I.applied+1))).alloc (.cells (RV rk ra rb rc rd rn rt la rl.length lc) 34)) (.agg (RV rk ra rb rc rd rn rt la rl.length lc)) ⟨rk,ra,rb,rc,rd,rn,rt,rl⟩:=⟨⟨_,rfl,hl1.under hbA'⟩,ok,hname⟩
 have HC:=hid (H _ hIM hIL)
 have HA:Hid (∀ w',IAfter Z ((w.setCell ⟨q,0,none⟩ (.int .i64 (I.applied+1))).alloc (.cells (RV rk ra rb rc rd rn rt la rl.length lc) 34)) w' q R.1→IAfter Z w w' q R.1):=fun w' hw=>IAfter.trans hIM (fun k hk=>.inl hk) hK hw
 have c0:=h.c0
 have f0:=h.fz 0
 have happ:=h.ok.app
 have hwr:IntKind.i64.wrap (I.applied+1)=I.applied+1:=IntWalk.i64_in _ ⟨by omega,by omega⟩
 have hne:¬ q=w.heap.size:=by omega
 have hen:=enter_kind rk #[.pointer (some ⟨q,0,none⟩),.agg (RV rk ra rb rc rd rn rt la rl.length lc)] ((w.setCell ⟨q,0,none⟩ (.int .i64 (I.applied+1))).alloc (.cells (RV rk ra rb rc rd rn rt la rl.length lc) 34)) rfl
 generalize kindF rk=kf at *
 clear h hT hK hIM hIL H hbA hbA' hl1 hnz hz1 hz2 hz3 ok happ ha
 go_enter Tryz.func12,Tryz.ntmps12
 go_wp2_with (first | (go_at_call 32;refine (HKD.out _).mono ?_;rintro e w9 ⟨rfl,rfl⟩))
 refine HC.out.mono ?_
 rintro e w1 ⟨rfl,h1⟩
 have H1:=hid (HA.out w1 h1)
 clear h1
 go_wp2_with fail
 go_ret2
 exact ⟨rfl,H1.out⟩
section
variable {P:Program} {ops:Array Oper} {Q:Exit→Act→World→Prop} {md:Region.Mode} {S:World→Prop} {z:Nat}
def ButLast (P:Program) (md:Region.Mode) (ops:Array Oper) (Q:Exit→Act→World→Prop) (S:World→Prop) (z:Nat):Nat→Array Bool→Act→World→Prop
 | 0,gone,a,w=>Region.ready md ops gone=[]∧Q .normal a w
 | n+1,gone,a,w=>(Region.ready md ops gone=[]→Q .normal a w)∧∀ k∈Region.ready md ops gone,wpOp P ops Q k (fun b u=>(k≠z→S u)∧ButLast P md ops Q S z n (gone.setIfInBounds k true) b u) a w
theorem ButLast.any:∀ {n:Nat} {gone:Array Bool} {a:Act} {w:World},ButLast P md ops Q S z n gone a w→wpAny P md ops Q n gone a w
 | 0,_,_,_,h=>h
 | _+1,_,_,_,h=>⟨h.1,fun k hk=>wpOp_mono (fun _ _ hh=>hh.2.any) (h.2 k hk)⟩
def Shutd (md:Region.Mode) (ops:Array Oper) (gone:Array Bool):Prop:=∀ k o,ops[k]?=some o→gone.getD k false=true→∀ e∈o.after,Region.binds md e=true→gone.getD e.on false=true
def shutB (md:Region.Mode) (ops:Array Oper) (gone:Array Bool):Bool :=
 (List.range ops.size).all fun k=>!(gone.getD k false) || match ops[k]? with | some o=>o.after.all fun e=>!(Region.binds md e) || gone.getD e.on false | none=>true
theorem shut_of {gone:Array Bool} (h:shutB md ops gone=true):Shutd md ops gone:=by
 intro k o ho hk e he hb
 have hlt:k<ops.size:=by
  rcases Nat.lt_or_ge k ops.size with h' | h'
  ·exact h'
  ·rw [Array.getElem?_eq_none h'] at ho;cases ho
 have h1:=List.all_eq_true.1 h k (List.mem_range.2 hlt)
 rw [hk,ho] at h1
 simp only [Bool.not_true,Bool.false_or] at h1
 have h2:=Array.all_eq_true_iff_forall_mem.1 h1 e he
 rw [hb] at h2
 simpa using h2
theorem Shutd.next {gone:Array Bool} {k:Nat} (h:Shutd md ops gone) (hk:k∈Region.ready md ops gone):Shutd md ops (gone.setIfInBounds k true):=by
 intro j o ho hj e he hb
 obtain ⟨_,o',ho',hall⟩:=mem_ready.1 hk
 by_cases ejk:k=j
 ·subst ejk
  have e1:o'=o:=by rw [ho] at ho';exact (Option.some.inj ho').symm
  subst e1
  exact getD_set_true (hall e he hb)
 ·rw [getD_set_ne false ejk] at hj
  exact getD_set_true (h j o ho hj e he hb)
def edgeB (md:Region.Mode) (ops:Array Oper) (k j:Nat):Bool:=match ops[k]? with | some o=>o.after.any fun e=>Region.binds md e && e.on == j | none=>false
def pathB (md:Region.Mode) (ops:Array Oper):Nat→List Nat→Bool
 | _,[]=>true
 | k,j :: r=>edgeB md ops k j && pathB md ops j r
theorem path_gone {gone:Array Bool} (hs:Shutd md ops gone) (i:Nat):∀ (l:List Nat) (k:Nat),(∀ o,ops[k]?=some o→∀ e∈o.after,Region.binds md e=true→gone.getD e.on false=true)→pathB md ops k (l++[i])=true→gone.getD i false=true
 | [],k,hk,h=>by
  simp only [List.nil_append,pathB,Bool.and_true] at h
  unfold edgeB at h
  split at h
  ·rename_i o ho
   obtain ⟨x,hx,h2⟩:=Array.any_eq_true.1 h
   have he:=Array.getElem_mem hx
   generalize o.after[x]=e at *
   rw [Bool.and_eq_true,beq_iff_eq] at h2
   have:=hk o ho e he h2.1
   rwa [h2.2] at this
  ·cases h
 | j :: r,k,hk,h=>by
  simp only [List.cons_append,pathB,Bool.and_eq_true] at h
  have h1:=h.1
  unfold edgeB at h1
  split at h1
  ·rename_i o ho
   obtain ⟨x,hx,h2⟩:=Array.any_eq_true.1 h1
   have he:=Array.getElem_mem hx
   generalize o.after[x]=e at *
   rw [Bool.and_eq_true,beq_iff_eq] at h2
   have h3:=hk o ho e he h2.1
   rw [h2.2] at h3
   exact path_gone hs i r j (fun o' ho'=>hs j o' ho' h3) h.2
  ·cases h1
theorem waits {i k:Nat} {gone:Array Bool} {o:Oper} (hi:i∈Region.ready md ops gone) (hk:k∈Region.ready md ops gone) (ho:ops[k]?=some o) :
  ∀ e∈o.after,Region.binds md e=true→e.on≠i:=by
 obtain ⟨_,o',ho',hall⟩:=mem_ready.1 hk
 have e1:o'=o:=by rw [ho] at ho';exact (Option.some.inj ho').symm
 subst e1
 intro e he hb hon
 have h1:=hall e he hb
 have h0:=(mem_ready.1 hi).1
 rw [hon] at h1
 by_cases hlt:i<gone.size
 ·simp [hlt] at h0 h1;rw [h0] at h1;cases h1
 ·simp [Array.getElem?_eq_none (Nat.le_of_not_lt hlt)] at h1
theorem not_last {i:Nat} {gone:Array Bool} {p:List Nat} (hs:Shutd md ops gone) (hp:pathB md ops z (p++[i])=true) (hi:i∈Region.ready md ops gone) {k:Nat} (hk:k∈Region.ready md ops gone):k≠z:=by
 rintro rfl
 obtain ⟨_,o',ho',hall⟩:=mem_ready.1 hk
 have h1:=path_gone hs i p k (fun o ho=>by rw [ho'] at ho;cases ho;exact hall) hp
 have h0:=(mem_ready.1 hi).1
 by_cases hlt:i<gone.size
 ·simp [hlt] at h0 h1;rw [h0] at h1;cases h1
 ·simp [Array.getElem?_eq_none (Nat.le_of_not_lt hlt)] at h1
theorem ButLast.first {i:Nat} {oi:Oper} {v:Value} {p:List Nat} (hi:ops[i]?=some oi) (hsel:∀ (k:Nat) (o:Oper) cs b,ops[k]?=some o→o.op≠.select cs b)
  (hQ:∀ c a w,Q (.panic c) (a.put oi.dst v) w→Q (.panic c) a w) (hp:pathB md ops z (p++[i])=true):∀ (n:Nat) (gone:Array Bool) (a:Act) (w:World),
   (∀ k o,ops[k]?=some o→k≠i→gone.getD k true=false→(∀ e∈o.after,Region.binds md e=true→e.on≠i)→oi.apart ops o=true) →
   i∈Region.ready md ops gone→Shutd md ops gone→YieldsIf P ops S oi v a→S w →
   ButLast P md ops Q S z n (gone.setIfInBounds i true) (a.put oi.dst v) w→ButLast P md ops Q S z (n+1) gone a w:=by
 intro n
 induction n with
 | zero =>
  intro gone a w _ hr _ hy hS H
  refine ⟨fun h=>absurd hr (by rw [h];simp),fun k hk=>?_⟩
  by_cases e:k=i
  ·subst e;exact hy.wpOp hi hS ⟨fun _=>hS,H⟩
  ·exact absurd (ready_mono hk e) (by rw [H.1];simp)
 | succ n ih =>
  intro gone a w hfree hr hs hy hS H
  refine ⟨fun h=>absurd hr (by rw [h];simp),fun k hk=>?_⟩
  by_cases e:k=i
  ·subst e;exact hy.wpOp hi hS ⟨fun _=>hS,H⟩
  have hri:i∈Region.ready md ops (gone.setIfInBounds k true):=ready_mono hr (fun h=>e h.symm)
  obtain ⟨hun,ok,hok,_⟩:=mem_ready.1 hk
  have hstep:=wpOp_putIf hok (hfree k ok hok e hun (waits hr hk hok)) (fun cs b=>hsel i oi cs b hi) (fun cs b=>hsel k ok cs b hok) hQ hy (H.2 k (ready_mono hk e))
  refine wpOp_mono ?_ hstep
  rintro a' w' ⟨hy',hS',hH⟩
  rw [show (gone.setIfInBounds i true).setIfInBounds k true=(gone.setIfInBounds k true).setIfInBounds i true from Array.setIfInBounds_comm _ _ (fun h=>e h.symm)] at hH
  have hSw:=hS' (not_last hs hp hr hk)
  refine ⟨fun _=>hSw,ih _ a' w' ?_ hri (hs.next hk) hy' hSw hH⟩
  intro j o ho hji hju hno
  refine hfree j o ho hji ?_ hno
  by_cases hkj:k=j
  ·subst hkj;exact hun
  ·rwa [getD_set_ne true hkj] at hju
theorem ButLast.take (i:Nat) (v:Value) (p:List Nat) {oi:Oper} {n:Nat} {gone:Array Bool} {a:Act} {w:World} (hi:ops[i]?=some oi) (hs:Region.noSelect ops=true) (hf:Region.free md ops gone i=true) (hr:(Region.ready md ops gone).contains i=true) (hsh:shutB md ops gone=true) (hp:pathB md ops z (p++[i])=true)
  (hQ:∀ c a w,Q (.panic c) (a.put oi.dst v) w→Q (.panic c) a w) (hy:YieldsIf P ops S oi v a) (hS:S w)
  (h:ButLast P md ops Q S z n (gone.setIfInBounds i true) (a.put oi.dst v) w):ButLast P md ops Q S z (n+1) gone a w :=
 ButLast.first hi (Region.noSelect_spec hs) hQ hp n gone a w (Region.free_spec hi hf) (by simpa using hr) (shut_of hsh) hy hS h
theorem ButLast.one (i:Nat) {o:Oper} {n:Nat} {gone:Array Bool} {a:Act} {w:World} (hr:Region.ready md ops gone=[i]) (ho:ops[i]?=some o)
  (h:∀ K:Act→World→Prop,Shut (∀ b u,(i≠z→S u)→ButLast P md ops Q S z n (gone.setIfInBounds i true) b u→K b u)→if Region.wanted o (yielded ops a.tmps)=true then Oper.wp P o a w K Q else K (a.put o.dst undef) w):ButLast P md ops Q S z (n+1) gone a w:=by
 refine ⟨fun h0=>absurd h0 (by rw [hr];simp),fun k hk=>?_⟩
 rw [hr] at hk
 have e:k=i:=by simpa using hk
 subst e
 exact wpOp_step ho fun K' hK=>h K' fun b u h1 h2=>hK b u ⟨h1,h2⟩
theorem ButLast.done {n:Nat} {gone:Array Bool} {a:Act} {w:World} (hr:Region.ready md ops gone=[]) (h:Q .normal a w):ButLast P md ops Q S z n gone a w:=by
 cases n with
 | zero=>exact ⟨hr,h⟩
 | succ n=>exact ⟨fun _=>h,by rw [hr];simp⟩
theorem region_last (S:World→Prop) (z:Nat) {id:Nat} {a:Act} {w:World} (hm:P.follows .mixedOrders=true) (h:ButLast P .any ops Q S z ops.size (Array.replicate ops.size false) a w.drew):(Code.region id ops true).wp P Q a w :=
 wp_region_any hm h.any
end
theorem step_go {ops:Array Oper} {o:Oper} {a:Act} {w:World} {K:Act→World→Prop} {Q:Exit→Act→World→Prop} {E:Prop} {R:Ending→World→Prop} (f:Nat) (xs:Array Operand) (ts:Array TypeId) (hg:o.guard=none)
  (ho:o.op=.call { callee:=.value (.func f),args:=xs,argTypes:=ts }) (vs:Array Value) (hx:xs.map a.eval=vs) (hf:Sem.run Tryz.prog (callFunc f vs) w=.ok (.enter f vs) w) (hc:Calls Tryz.prog f vs w R) (hR:∀ e w',R e w'→∃ u,e=.returned u∧K (a.put o.dst u) w') :
  if Region.wanted o (yielded ops a.tmps)=true then Oper.wp Tryz.prog o a w K Q else E:=by
 have hw:Region.wanted o (yielded ops a.tmps)=true:=by simp [Region.wanted,hg]
 rw [if_pos hw]
 have he:(execOp a.eval o).run Tryz.prog w=.ok (.enter f vs) w:=by
  subst hx
  simp [go_sem,execOp,ho,resolve,hf]
 unfold Oper.wp
 rw [he]
 refine hc.mono ?_
 intro e w' hr
 obtain ⟨u,rfl,hK⟩:=hR e w' hr
 exact hK
theorem put_eval (a:Act) (d x:Nat) (v:Value):(a.put (some d) v).eval (.tmp x)=if d=x∧d<a.tmps.size then v else a.eval (.tmp x):=by
 simp only [Act.eval,Act.put,Array.getElem?_setIfInBounds]
 by_cases h:d=x
 ·subst h
  by_cases h2:d<a.tmps.size
  ·simp [h2]
  ·simp [h2]
 ·simp [h]
theorem put_size (a:Act) (d:Nat) (v:Value):(a.put (some d) v).tmps.size=a.tmps.size:=by simp [Act.put]
theorem yields_move {ops:Array Oper} {o:Oper} {a:Act} {S:World→Prop} {v:Value} (hg:o.guard=none) (x:Nat) (ho:o.op=.move (.tmp x)) (hx:a.eval (.tmp x)=v):YieldsIf Tryz.prog ops S o v a:=by
 refine .inl ⟨by simp [Region.wanted,hg],fun w _=>?_⟩
 unfold execOp
 rw [ho]
 subst hx
 simp [go_sem]
theorem yields_nil {ops:Array Oper} {o:Oper} {a:Act} {S:World→Prop} (hg:o.guard=none) (x r:Nat) (ho:o.op=.nilCheck (.tmp x)) (hx:a.eval (.tmp x)=.pointer (some ⟨r,0,none⟩)):YieldsIf Tryz.prog ops S o (.pointer (some ⟨r,0,none⟩)) a:=by
 refine .inl ⟨by simp [Region.wanted,hg],fun w _=>?_⟩
 unfold execOp
 rw [ho]
 have hx':a.tmps[x]?.getD undef=.pointer (some ⟨r,0,none⟩):=by simpa [Act.eval] using hx
 go_simp
theorem yields_field70_2 {ops:Array Oper} {o:Oper} {a:Act} {S:World→Prop} (hg:o.guard=none) (x r:Nat) (ho:o.op=.fieldAddr 70 (.tmp x) 2) (hx:a.eval (.tmp x)=.pointer (some ⟨r,0,none⟩)):YieldsIf Tryz.prog ops S o (.pointer (some ⟨r,2,none⟩)) a:=by
 refine .inl ⟨by simp [Region.wanted,hg],fun w _=>?_⟩
 unfold execOp
 rw [ho]
 have hx':a.tmps[x]?.getD undef=.pointer (some ⟨r,0,none⟩):=by simpa [Act.eval] using hx
 go_simp
theorem yields_field70_3 {ops:Array Oper} {o:Oper} {a:Act} {S:World→Prop} (hg:o.guard=none) (x r:Nat) (ho:o.op=.fieldAddr 70 (.tmp x) 3) (hx:a.eval (.tmp x)=.pointer (some ⟨r,0,none⟩)):YieldsIf Tryz.prog ops S o (.pointer (some ⟨r,3,none⟩)) a:=by
 refine .inl ⟨by simp [Region.wanted,hg],fun w _=>?_⟩
 unfold execOp
 rw [ho]
 have hx':a.tmps[x]?.getD undef=.pointer (some ⟨r,0,none⟩):=by simpa [Act.eval] using hx
 go_simp
theorem yields_field34_2 {ops:Array Oper} {o:Oper} {a:Act} {S:World→Prop} (hg:o.guard=none) (x r:Nat) (ho:o.op=.fieldAddr 34 (.tmp x) 2) (hx:a.eval (.tmp x)=.pointer (some ⟨r,0,none⟩)):YieldsIf Tryz.prog ops S o (.pointer (some ⟨r,2,none⟩)) a:=by
 refine .inl ⟨by simp [Region.wanted,hg],fun w _=>?_⟩
 unfold execOp
 rw [ho]
 have hx':a.tmps[x]?.getD undef=.pointer (some ⟨r,0,none⟩):=by simpa [Act.eval] using hx
 go_simp
theorem yields_field34_3 {ops:Array Oper} {o:Oper} {a:Act} {S:World→Prop} (hg:o.guard=none) (x r:Nat) (ho:o.op=.fieldAddr 34 (.tmp x) 3) (hx:a.eval (.tmp x)=.pointer (some ⟨r,0,none⟩)):YieldsIf Tryz.prog ops S o (.pointer (some ⟨r,3,none⟩)) a:=by
 refine .inl ⟨by simp [Region.wanted,hg],fun w _=>?_⟩
 unfold execOp
 rw [ho]
 have hx':a.tmps[x]?.getD undef=.pointer (some ⟨r,0,none⟩):=by simpa [Act.eval] using hx
 go_simp
theorem yields_load68 {ops:Array Oper} {o:Oper} {a:Act} {S:World→Prop} (hg:o.guard=none) (x r f:Nat) (ho:o.op=.load 68 (.tmp x)) (hx:a.eval (.tmp x)=.pointer (some ⟨r,f,none⟩)) (v:Value) (hS:∀ w,S w→w.cell? ⟨r,f,none⟩=some v):YieldsIf Tryz.prog ops S o v a:=by
 refine .inl ⟨by simp [Region.wanted,hg],fun w hw=>?_⟩
 unfold execOp
 rw [ho]
 have hx':a.tmps[x]?.getD undef=.pointer (some ⟨r,f,none⟩):=by simpa [Act.eval] using hx
 have hc:=hS w hw
 go_simp
theorem yields_load30 {ops:Array Oper} {o:Oper} {a:Act} {S:World→Prop} (hg:o.guard=none) (x r f:Nat) (ho:o.op=.load 30 (.tmp x)) (hx:a.eval (.tmp x)=.pointer (some ⟨r,f,none⟩)) (v:Value) (hS:∀ w,S w→w.cell? ⟨r,f,none⟩=some v):YieldsIf Tryz.prog ops S o v a:=by
 refine .inl ⟨by simp [Region.wanted,hg],fun w hw=>?_⟩
 unfold execOp
 rw [ho]
 have hx':a.tmps[x]?.getD undef=.pointer (some ⟨r,f,none⟩):=by simpa [Act.eval] using hx
 have hc:=hS w hw
 go_simp
theorem yields_load3 {ops:Array Oper} {o:Oper} {a:Act} {S:World→Prop} (hg:o.guard=none) (x r f:Nat) (ho:o.op=.load 3 (.tmp x)) (hx:a.eval (.tmp x)=.pointer (some ⟨r,f,none⟩)) (v:Value) (hS:∀ w,S w→w.cell? ⟨r,f,none⟩=some v):YieldsIf Tryz.prog ops S o v a:=by
 refine .inl ⟨by simp [Region.wanted,hg],fun w hw=>?_⟩
 unfold execOp
 rw [ho]
 have hx':a.tmps[x]?.getD undef=.pointer (some ⟨r,f,none⟩):=by simpa [Act.eval] using hx
 have hc:=hS w hw
 go_simp
theorem yields_load96 {ops:Array Oper} {o:Oper} {a:Act} {S:World→Prop} (hg:o.guard=none) (x r:Nat) (ho:o.op=.load 96 (.tmp x)) (hx:a.eval (.tmp x)=.pointer (some ⟨r,0,none⟩)) (c0 c1 c2:Value) (hS:∀ w,S w→w.heap[r]?=some (.cells #[c0,c1,c2] 96)):YieldsIf Tryz.prog ops S o (.agg #[c0,c1,c2]) a:=by
 refine .inl ⟨by simp [Region.wanted,hg],fun w hw=>?_⟩
 unfold execOp
 rw [ho]
 have hx':a.tmps[x]?.getD undef=.pointer (some ⟨r,0,none⟩):=by simpa [Act.eval] using hx
 have hc:=hS w hw
 have l0:=cell_blk hc 0 _ rfl
 have l1:=cell_blk hc 1 _ rfl
 have l2:=cell_blk hc 2 _ rfl
 go_simp
theorem step_one68 {ops:Array Oper} {o:Oper} {a:Act} {w:World} {K:Act→World→Prop} {Q:Exit→Act→World→Prop} {E:Prop} (hg:o.guard=none) (x:Nat)
  (ho:o.op=.buildSlice 68 1 #[(0,.tmp x)]) (s:ByteArray) (c1 c2:Int) (hx:a.eval (.tmp x)=.agg #[.string s,.int .i64 c1,.int .i64 c2])
  (hK:K (a.put o.dst (.slice (some ⟨w.heap.size,0,none⟩) 1 1)) (w.alloc (.cells #[.string s,.int .i64 c1,.int .i64 c2] 96))) :
  if Region.wanted o (yielded ops a.tmps)=true then Oper.wp Tryz.prog o a w K Q else E:=by
 have hw:Region.wanted o (yielded ops a.tmps)=true:=by simp [Region.wanted,hg]
 rw [if_pos hw]
 unfold Oper.wp execOp
 rw [ho]
 have hx':a.tmps[x]?.getD undef=.agg #[.string s,.int .i64 c1,.int .i64 c2]:=by simpa [Act.eval] using hx
 go_simp
 exact hK
theorem step_one30 {ops:Array Oper} {o:Oper} {a:Act} {w:World} {K:Act→World→Prop} {Q:Exit→Act→World→Prop} {E:Prop} (hg:o.guard=none) (x:Nat)
  (ho:o.op=.buildSlice 30 1 #[(0,.tmp x)]) (c0 c1 c2 c3 c8:Int) (a4 a5 a6 a7:Option Addr) (n4 n5 n6 n7 k4 k5 k6 k7:Nat) (hx:a.eval (.tmp x)=.agg #[.int .i64 c0,.int .i64 c1,.int .i64 c2,.int .i64 c3,.slice a4 n4 k4,.slice a5 n5 k5,.slice a6 n6 k6,.slice a7 n7 k7,.int .i64 c8])
  (hK:K (a.put o.dst (.slice (some ⟨w.heap.size,0,none⟩) 1 1)) (w.alloc (.cells #[.int .i64 c0,.int .i64 c1,.int .i64 c2,.int .i64 c3,.slice a4 n4 k4,.slice a5 n5 k5,.slice a6 n6 k6,.slice a7 n7 k7,.int .i64 c8] 54))) :
  if Region.wanted o (yielded ops a.tmps)=true then Oper.wp Tryz.prog o a w K Q else E:=by
 have hw:Region.wanted o (yielded ops a.tmps)=true:=by simp [Region.wanted,hg]
 rw [if_pos hw]
 unfold Oper.wp execOp
 rw [ho]
 have hx':a.tmps[x]?.getD undef=.agg #[.int .i64 c0,.int .i64 c1,.int .i64 c2,.int .i64 c3,.slice a4 n4 k4,.slice a5 n5 k5,.slice a6 n6 k6,.slice a7 n7 k7,.int .i64 c8]:=by simpa [Act.eval] using hx
 go_simp
 exact hK
theorem step_store68 {ops:Array Oper} {o:Oper} {a:Act} {w:World} {K:Act→World→Prop} {Q:Exit→Act→World→Prop} {E:Prop} (hg:o.guard=none) (x y:Nat)
  (ho:o.op=.store 68 (.tmp x) (.tmp y)) (r f g n c:Nat) (hx:a.eval (.tmp x)=.pointer (some ⟨r,f,none⟩)) (hy:a.eval (.tmp y)=.slice (some ⟨g,0,none⟩) n c) (u:Value) (h1:w.cell? ⟨r,f,none⟩=some u) (h2:w.frozen? ⟨r,f,none⟩=false)
  (hK:K (a.put o.dst undef) (w.setCell ⟨r,f,none⟩ (.slice (some ⟨g,0,none⟩) n c))) :
  if Region.wanted o (yielded ops a.tmps)=true then Oper.wp Tryz.prog o a w K Q else E:=by
 have hw:Region.wanted o (yielded ops a.tmps)=true:=by simp [Region.wanted,hg]
 rw [if_pos hw]
 unfold Oper.wp execOp
 rw [ho]
 have hx':a.tmps[x]?.getD undef=.pointer (some ⟨r,f,none⟩):=by simpa [Act.eval] using hx
 have hy':a.tmps[y]?.getD undef=.slice (some ⟨g,0,none⟩) n c:=by simpa [Act.eval] using hy
 go_simp
 exact hK
theorem ButLast.store68 {md:Region.Mode} {ops:Array Oper} {Q:Exit→Act→World→Prop} {S:World→Prop} {z:Nat} (i:Nat) {o:Oper} {n:Nat} {gone:Array Bool} {a:Act} {w:World} (hr:Region.ready md ops gone=[i]) (ho:ops[i]?=some o) (hg:o.guard=none) (x y:Nat)
  (hop:o.op=.store 68 (.tmp x) (.tmp y)) (r f g m c:Nat) (hx:a.eval (.tmp x)=.pointer (some ⟨r,f,none⟩)) (hy:a.eval (.tmp y)=.slice (some ⟨g,0,none⟩) m c) (u:Value) (h1:w.cell? ⟨r,f,none⟩=some u) (h2:w.frozen? ⟨r,f,none⟩=false)
  (hS:i≠z→S (w.setCell ⟨r,f,none⟩ (.slice (some ⟨g,0,none⟩) m c))) (H:ButLast Tryz.prog md ops Q S z n (gone.setIfInBounds i true) (a.put o.dst undef) (w.setCell ⟨r,f,none⟩ (.slice (some ⟨g,0,none⟩) m c))):ButLast Tryz.prog md ops Q S z (n+1) gone a w :=
 ButLast.one i hr ho (fun K hK=>step_store68 hg x y hop r f g m c hx hy u h1 h2 (hK.out _ _ hS H))
theorem step_store30 {ops:Array Oper} {o:Oper} {a:Act} {w:World} {K:Act→World→Prop} {Q:Exit→Act→World→Prop} {E:Prop} (hg:o.guard=none) (x y:Nat)
  (ho:o.op=.store 30 (.tmp x) (.tmp y)) (r f g n c:Nat) (hx:a.eval (.tmp x)=.pointer (some ⟨r,f,none⟩)) (hy:a.eval (.tmp y)=.slice (some ⟨g,0,none⟩) n c) (u:Value) (h1:w.cell? ⟨r,f,none⟩=some u) (h2:w.frozen? ⟨r,f,none⟩=false)
  (hK:K (a.put o.dst undef) (w.setCell ⟨r,f,none⟩ (.slice (some ⟨g,0,none⟩) n c))) :
  if Region.wanted o (yielded ops a.tmps)=true then Oper.wp Tryz.prog o a w K Q else E:=by
 have hw:Region.wanted o (yielded ops a.tmps)=true:=by simp [Region.wanted,hg]
 rw [if_pos hw]
 unfold Oper.wp execOp
 rw [ho]
 have hx':a.tmps[x]?.getD undef=.pointer (some ⟨r,f,none⟩):=by simpa [Act.eval] using hx
 have hy':a.tmps[y]?.getD undef=.slice (some ⟨g,0,none⟩) n c:=by simpa [Act.eval] using hy
 go_simp
 exact hK
theorem ButLast.store30 {md:Region.Mode} {ops:Array Oper} {Q:Exit→Act→World→Prop} {S:World→Prop} {z:Nat} (i:Nat) {o:Oper} {n:Nat} {gone:Array Bool} {a:Act} {w:World} (hr:Region.ready md ops gone=[i]) (ho:ops[i]?=some o) (hg:o.guard=none) (x y:Nat)
  (hop:o.op=.store 30 (.tmp x) (.tmp y)) (r f g m c:Nat) (hx:a.eval (.tmp x)=.pointer (some ⟨r,f,none⟩)) (hy:a.eval (.tmp y)=.slice (some ⟨g,0,none⟩) m c) (u:Value) (h1:w.cell? ⟨r,f,none⟩=some u) (h2:w.frozen? ⟨r,f,none⟩=false)
  (hS:i≠z→S (w.setCell ⟨r,f,none⟩ (.slice (some ⟨g,0,none⟩) m c))) (H:ButLast Tryz.prog md ops Q S z n (gone.setIfInBounds i true) (a.put o.dst undef) (w.setCell ⟨r,f,none⟩ (.slice (some ⟨g,0,none⟩) m c))):ButLast Tryz.prog md ops Q S z (n+1) gone a w :=
 ButLast.one i hr ho (fun K hK=>step_store30 hg x y hop r f g m c hx hy u h1 h2 (hK.out _ _ hS H))
def fillA (f:Nat→Int) (k n:Nat):Array Value:=((List.range n).map fun i=>Value.int .i64 (if i<k then f i else 0)).toArray
theorem fillA_size (f:Nat→Int) (k n:Nat):(fillA f k n).size=n:=by simp [fillA]
theorem fillA_get (f:Nat→Int) (k n i:Nat) (hi:i<n):(fillA f k n)[i]?=some (.int .i64 (if i<k then f i else 0)):=by
 simp [fillA,hi]
theorem fillA_set (f:Nat→Int) (k n:Nat):(fillA f k n).setIfInBounds k (.int .i64 (f k))=fillA f (k+1) n:=by
 apply Array.ext_getElem?
 intro i
 rw [Array.getElem?_setIfInBounds]
 by_cases h:i<n
 ·rw [fillA_get f k n i h,fillA_get f (k+1) n i h]
  by_cases e:k=i
  ·subst e
   simp [fillA_size,h]
  ·have:(i<k+1) ↔ i<k:=by omega
   simp [e,this]
 ·have h1:(fillA f k n)[i]?=none:=Array.getElem?_eq_none (by rw [fillA_size];omega)
  have h2:(fillA f (k+1) n)[i]?=none:=Array.getElem?_eq_none (by rw [fillA_size];omega)
  rw [h1,h2]
  split
  ·rw [fillA_size,if_neg (by omega)]
  ·rfl
theorem info3b:∃ i,Tryz.prog.info? 3=some i∧i.zero=some (.int .i64 0)∧i.size=1∧i.bytes=8:=⟨_,rfl,rfl,rfl,rfl⟩
theorem make23 (f:Nat→Int) (w:World) (n:Nat) (hn:n≤1000):(Instr.makeSlice 23 (.int .i64 (n:Int)) (.int .i64 (n:Int))).run Tryz.prog w=.ok (.slice (some ⟨w.heap.size,0,none⟩) n n) (w.alloc (.cells (fillA f 0 n) 3)):=by
 obtain ⟨i,h1,h2,h3,h4⟩:=info3b
 have:=run_makeSlice (P:=Tryz.prog) w 23 3 i _ Tryz.underlying23 h1 h2 .i64 .i64 (n:Int) (n:Int) (by omega) (Int.le_refl _) (by rw [h3];simp;omega) (by rw [h4];omega) (by omega)
 rw [this,h3]
 have e:madeCells #[Value.int .i64 0] (n*1)=fillA f 0 n:=by
  apply Array.ext_getElem?
  intro i
  by_cases h:i<n
  ·rw [fillA_get f 0 n i h]
   simp [madeCells,h,Nat.mod_one]
  ·have h1:(fillA f 0 n)[i]?=none:=Array.getElem?_eq_none (by rw [fillA_size];omega)
   have h2:(madeCells #[Value.int .i64 0] (n*1))[i]?=none:=Array.getElem?_eq_none (by simp [madeCells];omega)
   rw [h1,h2]
 rw [show (Value.int IntKind.i64 0).cells=#[Value.int .i64 0] from rfl]
 simp only [Int.toNat_natCast]
 rw [e]
theorem il_fill {w:World} {f:Nat→Int} {g n:Nat} (h:w.heap[g]?=some (.cells (fillA f n n) 3)) (hf:∀ i,i<n→I64 (f i)) (hn:n≤1000):IL w (.slice (some ⟨g,0,none⟩) n n) ((List.range n).map f):=by
 refine ⟨⟨some ⟨g,0,none⟩,n,by simp,by simp,by unfold maxLen;omega,(fun h=>by cases h),fun _=>⟨g,0,rfl,(Array.getElem?_eq_some_iff.1 h).1,fun i hi=>?_⟩⟩,fun x hx=>?_,by simp;omega⟩
 ·have hi':i<n:=by simpa using hi
  refine cell_blk h _ _ ?_
  rw [Nat.zero_add,fillA_get f n n i hi',if_pos hi']
  simp
 ·obtain ⟨i,hi,rfl⟩:=List.mem_map.1 hx
  exact hf i (List.mem_range.1 hi)
theorem round_any {w:World} {v:Value} {l:List Int} (h:IL w v l) (hl:0<l.length) (p n:Nat) (hp:p≤100) (hn:n≤100) (hll:l.length≤100):Calls Tryz.prog 121 #[v,.int .i64 (p:Int),.int .i64 (n:Int)] w fun e w'=>∃ v',e=.returned v'∧IL w' v' (roundL l p n)∧In (fun b=>w.heap.size≤b) v' (roundL l p n)∧Below w.heap.size w w':=by
 obtain ⟨⟨a,cap,rfl,hcap,hcm,hnn,hat⟩,hok,hfew⟩:=h
 obtain ⟨b,off,rfl,hb,hc⟩:=hat (by intro e;rw [e] at hl;simp at hl)
 have HF:Hid (∀ i,i<n→∃ j:Nat,j<l.length∧(p+i) % l.length=j∧((p:Int)+(i:Int)).tmod (l.length:Int)=(j:Int)∧((p:Int)+(i:Int)) % (l.length:Int)=(j:Int)):=fun i hi=>by
  have e:((p:Int)+(i:Int)) % (l.length:Int)=(((p+i) % l.length:Nat):Int):=by push_cast;rfl
  exact ⟨(p+i) % l.length,Nat.mod_lt _ hl,rfl,by rw [Int.tmod_eq_emod_of_nonneg (by omega)];exact e,e⟩
 have HC:=hid hc
 have HMK:=hid (fun w=>make23 (fun i=>(l[(p+i) % l.length]?).getD 0) w n (by omega))
 have HOK:=hid hok
 have hmk:=HMK.out w
 clear hc HMK hok hnn hat
 go_enter Tryz.func121,Tryz.ntmps121
 go_wp2_with fail
 have HB0:=hid (heap_alloc_new w (.cells (fillA (fun i=>(l[(p+i) % l.length]?).getD 0) 0 n) 3))
 have HW0:Hid (Below w.heap.size w (w.alloc (.cells (fillA (fun i=>(l[(p+i) % l.length]?).getD 0) 0 n) 3))):=(Below.refl _ _).alloc (Nat.le_refl _) _
 clear hmk
 generalize w.alloc (.cells (fillA (fun i=>(l[(p+i) % l.length]?).getD 0) 0 n) 3)=W0 at *
 go_loopg [13] n (fun kx s13 wr=>∃ k:Nat,k≤n∧n - k≤kx∧s13=.int .i64 (k:Int)∧Hid (wr.heap[w.heap.size]?=some (.cells (fillA (fun i=>(l[(p+i) % l.length]?).getD 0) k n) 3)∧Below w.heap.size w wr))
 case atStart=>exact ⟨0,Nat.zero_le _,by omega,rfl,HB0.out,HW0.out⟩
 case round =>
  obtain ⟨k,hk,hkx,rfl,HR⟩:=hrel
  by_cases hlt:k<n
  ·obtain ⟨j,hj,ej,t1,t2⟩:=HF.out k hlt
   have hck:=kept_cell HR.out.2 (HC.out j hj)
   have e1:(l[(p+k) % l.length]?).getD 0=l[j]:=by rw [ej];simp [hj]
   have hix:=HOK.out l[j] (by simp)
   unfold I64 at hix
   have HS:=hid (set_box (j:=k) (v:=.int .i64 l[j]) HR.out.1)
   rw [← e1] at HS
   rw [fillA_set (fun i=>(l[(p+i) % l.length]?).getD 0) k n,e1] at HS
   have HW:Hid (Below w.heap.size w (wr.setCell ⟨w.heap.size,k,none⟩ (.int .i64 l[j]))):=HR.out.2.setCell (Nat.le_refl _) _
   have hcw:=cell_blk HR.out.1 k _ (fillA_get _ k n k hlt)
   have hfw:=frz_blk HR.out.1 k
   generalize l[j]=y at *
   clear e1 ej HR HC
   have g1:(k:Int)<(n:Int):=by omega
   have g2:(j:Int)<(l.length:Int):=by omega
   have g3:IntKind.i64.wrap ((p:Int)+(k:Int))=(p:Int)+(k:Int):=IntWalk.i64_in _ ⟨by omega,by omega⟩
   have g4:(l.length:Int)≠0:=by omega
   go_wp2_with fail
   go_roundg (n - (k+1))
   case measure=>omega
   case rel=>exact ⟨k+1,by omega,Nat.le_refl _,by go_num,HS.out,HW.out⟩
  ·have hkn:k=n:=by omega
   have HR':=HR
   rw [hkn] at HR'
   have hlt':¬ (k:Int)<(n:Int):=by omega
   go_wp2_with fail
   go_ret
   refine ⟨_,rfl,il_fill HR'.out.1 (fun i hi=>?_) (by omega),fun _ b off n c e=>by cases e;exact Nat.le_refl _,HR'.out.2⟩
   obtain ⟨j,hj,ej,_⟩:=HF.out i hi
   have:(l[(p+i) % l.length]?).getD 0=l[j]:=by rw [ej];simp [hj]
   rw [this]
   exact HOK.out l[j] (by simp)
theorem tids_any (s:ByteArray) (first:Int) (n:Nat) (w:World) (hf:0≤first∧first≤1000) (hn:n≤100):Calls Tryz.prog 66 #[.agg #[.string s,.int .i64 first,.int .i64 (n:Int)]] w fun e w'=>∃ v',e=.returned v'∧IL w' v' ((List.range n).map fun (i:Nat)=>first+(i:Int))∧In (fun b=>w.heap.size≤b) v' ((List.range n).map fun (i:Nat)=>first+(i:Int))∧Below w.heap.size w w':=by
 have HMK:=hid (fun w=>make23 (fun i=>first+(i:Int)) w n (by omega))
 have hmk:=HMK.out (w.alloc (.cells #[.string s,.int .i64 first,.int .i64 (n:Int)] 96))
 go_enter Tryz.func66,Tryz.ntmps66
 go_wp2_with fail
 have hz:(w.alloc (.cells #[.string s,.int .i64 first,.int .i64 (n:Int)] 96)).heap.size=w.heap.size+1:=by simp
 have HB0:=hid (heap_alloc_new (w.alloc (.cells #[.string s,.int .i64 first,.int .i64 (n:Int)] 96)) (.cells (fillA (fun i=>first+(i:Int)) 0 n) 3))
 rw [hz] at HB0
 have HX0:Hid (((w.alloc (.cells #[.string s,.int .i64 first,.int .i64 (n:Int)] 96)).alloc (.cells (fillA (fun i=>first+(i:Int)) 0 n) 3)).heap[w.heap.size]?=some (.cells #[.string s,.int .i64 first,.int .i64 (n:Int)] 96)):=by
  show _=_
  rw [Below.heap_alloc _ _ _ (by simp)];exact heap_alloc_new _ _
 have HW0:Hid (Below w.heap.size w ((w.alloc (.cells #[.string s,.int .i64 first,.int .i64 (n:Int)] 96)).alloc (.cells (fillA (fun i=>first+(i:Int)) 0 n) 3))):=((Below.refl _ _).alloc (Nat.le_refl _) _).alloc (by simp) _
 clear hmk HMK
 try rw [hz]
 generalize (w.alloc (.cells #[.string s,.int .i64 first,.int .i64 (n:Int)] 96)).alloc (.cells (fillA (fun i=>first+(i:Int)) 0 n) 3)=W0 at *
 clear hz
 obtain ⟨x,hx⟩:∃ x,x=w.heap.size:=⟨_,rfl⟩
 rw [← hx] at HB0 HX0 HW0 ⊢
 go_loopg [10] n (fun kx s10 wr=>∃ k:Nat,k≤n∧n - k≤kx∧s10=.int .i64 (k:Int)∧Hid (wr.heap[x+1]?=some (.cells (fillA (fun i=>first+(i:Int)) k n) 3)∧wr.heap[x]?=some (.cells #[.string s,.int .i64 first,.int .i64 (n:Int)] 96)∧Below x w wr))
 case atStart=>exact ⟨0,Nat.zero_le _,by omega,rfl,HB0.out,HX0.out,HW0.out⟩
 case round =>
  obtain ⟨k,hk,hkx,rfl,HR⟩:=hrel
  by_cases hlt:k<n
  ·have HS:=hid (set_box (j:=k) (v:=.int .i64 (first+(k:Int))) HR.out.1)
   rw [fillA_set (fun i=>first+(i:Int)) k n] at HS
   have HW:Hid (Below x w (wr.setCell ⟨x+1,k,none⟩ (.int .i64 (first+(k:Int))))):=HR.out.2.2.setCell (by simp) _
   have HX:Hid ((wr.setCell ⟨x+1,k,none⟩ (.int .i64 (first+(k:Int)))).heap[x]?=some (.cells #[.string s,.int .i64 first,.int .i64 (n:Int)] 96)):=(Below.heap_setCell _ _ _ _ (by simp)).trans HR.out.2.1
   have hcw:=cell_blk HR.out.1 k _ (fillA_get _ k n k hlt)
   have hfw:=frz_blk HR.out.1 k
   have hc1:=cell_blk HR.out.2.1 1 _ rfl
   clear HR
   have g1:(k:Int)<(n:Int):=by omega
   have g3:IntKind.i64.wrap (first+(k:Int))=first+(k:Int):=IntWalk.i64_in _ ⟨by omega,by omega⟩
   clear hx
   go_wp2_with fail
   go_roundg (n - (k+1))
   case measure=>omega
   case rel=>exact ⟨k+1,by omega,Nat.le_refl _,by go_num,HS.out,HX.out,HW.out⟩
  ·have hkn:k=n:=by omega
   have HR':=HR
   rw [hkn] at HR'
   have hlt':¬ (k:Int)<(n:Int):=by omega
   have HX:=hid hx
   clear hx
   go_wp2_with fail
   go_ret
   have hx:=HX.out
   refine ⟨_,rfl,il_fill HR'.out.1 (fun i hi=>by unfold I64;omega) (by omega),fun _ b off n c e=>by cases e;rw [← hx];exact Nat.le_succ _,by rw [← hx];exact HR'.out.2.2⟩
theorem newPart_any {w:World} {v:Value} {l:List Int} (id c:Int) (h:IL w v l) (hl:0<l.length) (hid':I64 id) (hc:I64 c):Calls Tryz.prog 120 #[.int .i64 id,v,.int .i64 c] w fun e w'=>∃ v',e=.returned v'∧PartM w' v' (newP id l c)∧InP (fun b=>w.heap.size≤b) v' (newP id l c)∧Below w.heap.size w w':=by
 have HI:=hid h
 obtain ⟨⟨a,cap,rfl,hcap,hcm,hnn,hat⟩,hok,hfew⟩:=h
 obtain ⟨b,off,rfl,hb,hcl⟩:=hat (by intro e;rw [e] at hl;simp at hl)
 have hc0:=hcl 0 hl
 simp only [Nat.add_zero] at hc0
 have HH:Hid (headL l=l[0]∧I64 l[0]):=⟨by cases l with | nil=>simp at hl | cons x r=>rfl,hok _ (by simp)⟩
 have hl':(0:Int)<(l.length:Int):=by omega
 obtain ⟨y,hy⟩:∃ y,y=l[0]:=⟨_,rfl⟩
 rw [← hy] at hc0 HH
 clear hat hok hcl hcap hcm hnn hy
 have HP:Hid (∀ W,Below w.heap.size w W→PartM W (.agg #[.int .i64 id,.int .i64 y,.int .i64 1,.int .i64 1,.slice (some ⟨b,off,none⟩) l.length cap,.slice (some ⟨b,off,none⟩) l.length cap,.slice none 0 0,.slice none 0 0,.int .i64 c]) (newP id l c)):=fun W hW =>
  ⟨_,_,_,_,by simp [newP,HH.out.1],HI.out.under hW,HI.out.under hW,IL.nil _,IL.nil _,hid',by show I64 (headL l);rw [HH.out.1];exact HH.out.2,by show I64 1;unfold I64;omega,by show I64 1;unfold I64;omega,hc⟩
 clear HI
 go_enter Tryz.func120,Tryz.ntmps120
 go_upto_region 2 with fail
 have HT0:=hid (two_new w PZ #[.int .i64 id,.int .i64 y,.int .i64 1,.int .i64 1,.slice (some ⟨b,off,none⟩) l.length cap,.slice (some ⟨b,off,none⟩) l.length cap,.slice none 0 0,.slice none 0 0,.int .i64 c])
 generalize (w.alloc (.cells PZ 54)).alloc (.cells #[.int .i64 id,.int .i64 y,.int .i64 1,.int .i64 1,.slice (some ⟨b,off,none⟩) l.length cap,.slice (some ⟨b,off,none⟩) l.length cap,.slice none 0 0,.slice none 0 0,.int .i64 c] 54)=W0 at *
 obtain ⟨z0,z1,z2,z3,z4,z5,z6,z7,z8⟩:=cells9 HT0.out.z
 have HCL:=hid (clone_any (HP.out W0 HT0.out.b))
 go_wp2_with fail
 refine HCL.out.mono ?_
 rintro e W1 ⟨v',rfl,h1,h2,hb1⟩
 have HP1:=hid h1
 have HN1:=hid h2
 obtain ⟨x1,y1,x2,y2,x3,y3,x4,y4,rfl,_⟩:=h1.open
 have HT1:=hid (HT0.out.next hb1)
 clear h2 z0 z1 z2 z3 z4 z5 z6 z7 z8 hb1
 obtain ⟨z0,z1,z2,z3,z4,z5,z6,z7,z8⟩:=cells9 HT1.out.x
 have fz:=frz_blk HT1.out.x
 go_wp2_with fail
 generalize newP id l c=P at *
 obtain ⟨N,hN⟩:∃ N,N=puts W1 w.heap.size 0 [.int .i64 P.id,.int .i64 P.leader,.int .i64 P.epoch,.int .i64 P.ver,.slice x1 P.isr.length y1,.slice x2 P.reps.length y2,.slice x3 P.add.length y3,.slice x4 P.rem.length y4,.int .i64 P.min]:=⟨_,rfl⟩
 have HR:PutsR W1 N w.heap.size 0 [.int .i64 P.id,.int .i64 P.leader,.int .i64 P.epoch,.int .i64 P.ver,.slice x1 P.isr.length y1,.slice x2 P.reps.length y2,.slice x3 P.add.length y3,.slice x4 P.rem.length y4,.int .i64 P.min]:=by rw [hN];exact puts_all _ _ _ _
 show bodyPost Tryz.prog Tryz.f120 _ Exit.ret _ (puts W1 w.heap.size 0 [.int .i64 P.id,.int .i64 P.leader,.int .i64 P.epoch,.int .i64 P.ver,.slice x1 P.isr.length y1,.slice x2 P.reps.length y2,.slice x3 P.add.length y3,.slice x4 P.rem.length y4,.int .i64 P.min])
 rw [← hN]
 clear hN
 have hx:=HR.box9 HT1.out.x rfl
 have hs0:=HT0.out.s
 obtain ⟨r0,r1,r2,r3,r4,r5,r6,r7,r8⟩:=cells9 hx
 exact bodyPost_ret (v:=.agg (PP P x1 y1 x2 y2 x3 y3 x4 y4)) (by simp [results,Tryz.results120,go_sem,r0,r1,r2,r3,r4,r5,r6,r7,r8]) rfl ⟨_,rfl,HP1.out.kept HN1.out (fun k hk=>HR.other k (by omega)) (by rw [HR.size];exact Nat.le_refl _),HN1.out.mono (fun k hk=>by omega),HR.below HT1.out.b (Nat.le_refl _)⟩
end Go.Proofs.YtcffomhcmilcpaaGreat
