/- The document: Register of a broker that is known. -/
import Derived.Test.YtcffomhcmilcpaaGreatC29
import Derived.Test.YtcffomhcmilcpaaGreatC17
import Derived.Test.YtcffomhcmilcpaaGreatC22
set_option maxRecDepth 100000
set_option maxHeartbeats 20000000
set_option linter.unusedVariables false
set_option linter.unusedSimpArgs false
namespace Go.Proofs.YtcffomhcmilcpaaGreat
open Go.RowKit Go.Maps
theorem DC.out {w:World} {L:Nat→Prop} {q:Nat} {vb vt vp ve:Value} {ps:List (Value × Pt)} {I:Im} (h:DC w L q vb vt vp ve ps I):DOut L w w q vb vt vp ve I:=⟨L,ps,h,fun j hj=>.inl hj,Keeps.refl _ _⟩
theorem DOut.life {w w':World} {L:Nat→Prop} {q g n c:Nat} {vt vp ve:Value} {J:Im} (h:DOut L w w' q (.slice (some ⟨g,0,none⟩) n c) vt vp ve J) {i:Nat} {id:Int} {b:Br} (hx:J.brs[i]?=some (id,b)) (m:Int) (hm:1≤m∧m≤1000000000):DOut L w (w'.setCell ⟨g,i*3+1,none⟩ (.int .i64 m)) q (.slice (some ⟨g,0,none⟩) n c) vt vp ve { J with brs:=putB J.brs id ⟨m,b.up⟩ }:=by
 obtain ⟨L',ps',h1,h2,h3⟩:=h
 exact ⟨L',ps',h1.life hx m hm,h2,h3.trans (Keeps.set w' (a:=⟨g,i*3+1,none⟩) (S:=OwnD q (.slice (some ⟨g,0,none⟩) n c) vt vp ve) (.inr (.inl rfl)) _) (fun x hx=>.inl hx)⟩
theorem rregister_known {w:World} {Z:Nat→Prop} {q:Nat} {I:Im} (hi:DImg w Z q I) (r:Rc) (ha:I64 r.a) (hb:I64 r.b) (hkn:1≤r.a→r.a≤7→1≤r.b→r.b≤1000000000→getB I.brs r.a≠none):Calls Tryz.prog 33 #[.pointer (some ⟨q,0,none⟩),.int .i64 r.a,.int .i64 r.b] w fun e w'=>e=.returned (.int .i64 (registerI I r).2.2)∧DAfter Z w w' q (registerI I r).1:=by
 have HS:=hid (hi.after (Below.refl _ w))
 obtain ⟨L,vb,vt,vp,ve,ps,h,hz4,hz5,hz6⟩:=hi
 obtain ⟨R,hR⟩:∃ R,registerI I r=R:=⟨_,rfl⟩
 have HF:Hid (R=if !upB r.a 7 || !upB r.b 1000000000 then (I,0,1) else if (getB I.brs r.a).isSome && decide (r.b≤(valB I.brs r.a).life) then (I,0,13) else ((fun J:Im=>{ J with brs:=putB J.brs r.a ⟨r.b,false⟩ }) (if (valB I.brs r.a).up then putOffI I r.a else I),r.a,0)):=by show _=_;rw [← hR];rfl
 rw [hR]
 clear hR
 have H75:=hid (rbroker_any h r.a ha)
 generalize r.a=a at *
 generalize r.b=rb at *
 clear r
 unfold I64 at ha hb
 obtain ⟨ob,cb,rfl,_,_,_,hatb⟩:=row_shape h.brs
 have hl7:=keys_few h.ok.keys (fun p hp=>(h.ok.brs p hp).1)
 by_cases k1:a<1
 ·have HR:Hid (R=(I,0,1)):=by show _=_;rw [HF.out,if_pos (by simp only [upB,Bool.or_eq_true,Bool.not_eq_true',Bool.and_eq_false_iff,decide_eq_false_iff_not];omega)]
  rw [HR.out]
  clear HF HR h
  go_enter Tryz.func33,Tryz.ntmps33
  go_wp2_with fail
  go_ret
  exact ⟨rfl,HS.out⟩
 by_cases k2:(7:Int)<a
 ·have HR:Hid (R=(I,0,1)):=by show _=_;rw [HF.out,if_pos (by simp only [upB,Bool.or_eq_true,Bool.not_eq_true',Bool.and_eq_false_iff,decide_eq_false_iff_not];omega)]
  rw [HR.out]
  clear HF HR h
  go_enter Tryz.func33,Tryz.ntmps33
  go_wp2_with fail
  go_ret
  exact ⟨rfl,HS.out⟩
 by_cases k3:rb<1
 ·have HR:Hid (R=(I,0,1)):=by show _=_;rw [HF.out,if_pos (by simp only [upB,Bool.or_eq_true,Bool.not_eq_true',Bool.and_eq_false_iff,decide_eq_false_iff_not];omega)]
  rw [HR.out]
  clear HF HR h
  go_enter Tryz.func33,Tryz.ntmps33
  go_wp2_with fail
  go_ret
  exact ⟨rfl,HS.out⟩
 by_cases k4:(1000000000:Int)<rb
 ·have HR:Hid (R=(I,0,1)):=by show _=_;rw [HF.out,if_pos (by simp only [upB,Bool.or_eq_true,Bool.not_eq_true',Bool.and_eq_false_iff,decide_eq_false_iff_not];omega)]
  rw [HR.out]
  clear HF HR h
  go_enter Tryz.func33,Tryz.ntmps33
  go_wp2_with fail
  go_ret
  exact ⟨rfl,HS.out⟩
 rw [if_neg (by simp only [upB,Bool.or_eq_true,Bool.not_eq_true',Bool.and_eq_false_iff,decide_eq_false_iff_not];omega)] at HF
 cases hgb:getB I.brs a with
 | none=>exact absurd hgb (hkn (by omega) (by omega) (by omega) (by omega))
 | some b =>
  clear hkn
  obtain ⟨i,hpos,hx⟩:=posB_some hgb
  rw [hpos] at H75
  have hv:valB I.brs a=b:=by unfold valB;rw [hgb];rfl
  rw [hgb,hv] at HF
  have hil:i<I.brs.length:=(List.getElem?_eq_some_iff.1 hx).1
  have hil':(i:Int)<(I.brs.length:Int):=by omega
  have hi0:¬ (i:Int)<0:=by omega
  obtain ⟨g,rfl⟩:=hatb (by omega)
  obtain ⟨b0,b1,b2⟩:=h.br i _ hx
  have d1:=h.c1
  have HI:=hid h
  have HZ:=hid (And.intro hz4 hz5)
  have hgq:¬ q=g:=fun e=>h.ne_q.1 (by rw [e];rfl)
  have hgq2:¬ g=q:=fun e=>hgq e.symm
  have HX:=hid hx
  have HG:=hid hgb
  obtain ⟨lf,bu⟩:=b
  simp only at b0 b1 b2 HF
  clear h hz4 hz5 hz6 hx hgb hv hpos
  by_cases k5:rb≤lf
  ·have HR:Hid (R=(I,0,13)):=by show _=_;rw [HF.out,if_pos (by simp [k5])]
   rw [HR.out]
   clear HF HR
   go_enter Tryz.func33,Tryz.ntmps33
   go_wp2_with fail
   refine H75.out.mono ?_
   rintro e w1 ⟨rfl,rfl⟩
   go_wp2_with fail
   go_ret
   exact ⟨rfl,HS.out⟩
  ·rw [if_neg (by simp [k5])] at HF
   cases bu with
   | false =>
    have HR:Hid (R=({ I with brs:=putB I.brs a ⟨rb,false⟩ },a,0)):=by show _=_;rw [HF.out];rfl
    rw [HR.out]
    have HD:Hid (DAfter Z w (w.setCell ⟨g,i*3+1,none⟩ (.int .i64 rb)) q { I with brs:=putB I.brs a ⟨rb,false⟩ }):=(HI.out.out.life HX.out rb ⟨by omega,by omega⟩).after HZ.out.1 HZ.out.2
    obtain ⟨cur,hcur⟩:=row_blk HI.out.brs (k:=g) rfl
    have hfz:=frz_blk hcur (i*3+1)
    clear HF HR HI HX HG hcur
    go_enter Tryz.func33,Tryz.ntmps33
    go_wp2_with fail
    refine H75.out.mono ?_
    rintro e w1 ⟨rfl,rfl⟩
    go_wp2_with fail
    go_ret
    exact ⟨rfl,HD.out⟩
   | true =>
    have HR:Hid (R=({ (putOffI I a) with brs:=putB (putOffI I a).brs a ⟨rb,false⟩ },a,0)):=by show _=_;rw [HF.out];rfl
    rw [HR.out]
    have H76:=hid (rfencing_any HI.out HX.out HG.out)
    have HX2:Hid ((putOffI I a).brs[i]?=some (a,⟨lf,false⟩)):=by
     show (putB I.brs a ⟨(valB I.brs a).life,false⟩)[i]?=_
     have hv:valB I.brs a=⟨lf,true⟩:=by unfold valB;rw [HG.out];rfl
     rw [hv,putB_set I.brs i HI.out.ok.keys HX.out]
     simp [hil]
    have HFN:Hid (∀ w',DOut L w w' q (.slice (some ⟨g,0,none⟩) I.brs.length cb) vt vp ve (putOffI I a)→DAfter Z w (w'.setCell ⟨g,i*3+1,none⟩ (.int .i64 rb)) q { (putOffI I a) with brs:=putB (putOffI I a).brs a ⟨rb,false⟩ }∧w'.cell? ⟨q,1,none⟩=some (.slice (some ⟨g,0,none⟩) I.brs.length cb)∧w'.frozen? ⟨g,i*3+1,none⟩=false∧w'.cell? ⟨g,i*3+1,none⟩=some (.int .i64 lf)):=fun w' hD=>by
     refine ⟨(hD.life HX2.out rb ⟨by omega,by omega⟩).after HZ.out.1 HZ.out.2,?_⟩
     obtain ⟨L',ps',h1,h2,h3⟩:=hD
     obtain ⟨cur,hcur⟩:=row_blk h1.brs (k:=g) rfl
     exact ⟨h1.c1,frz_blk hcur _,(h1.br i _ HX2.out).2.1⟩
    clear HF HR HI HX HG HX2
    go_enter Tryz.func33,Tryz.ntmps33
    go_wp2_with fail
    refine H75.out.mono ?_
    rintro e w1 ⟨rfl,rfl⟩
    go_wp2_with fail
    refine H76.out.mono ?_
    rintro e w1 ⟨rfl,hD⟩
    obtain ⟨i1,i2,i3,i4⟩:=HFN.out w1 hD
    have HI1:=hid i1
    clear hD H76 HFN d1 b0 b1 b2 i1
    go_wp2_with fail
    go_ret
    exact ⟨rfl,HI1.out⟩
theorem insB_at (x:Int × Br):∀ (bs:BM) (k:Nat),(∀ i p,i<k→bs[i]?=some p→p.1<x.1)→(∀ p,bs[k]?=some p→x.1<p.1)→insB x bs=bs.take k++x :: bs.drop k
 | [],k,_,_=>by simp [insB]
 | y :: r,0,_,h2=>by
  unfold insB
  rw [if_pos (h2 y (by simp))]
  simp
 | y :: r,k+1,h1,h2=>by
  have hy:y.1<x.1:=h1 0 y (by omega) (by simp)
  unfold insB
  rw [if_neg (by omega),insB_at x r k (fun i p hi hp=>h1 (i+1) p (by omega) (by simpa using hp)) (fun p hp=>h2 p (by simpa using hp))]
  simp
theorem getB_none {bs:BM} {n:Int} (h:getB bs n=none):∀ p∈bs,p.1≠n:=by
 intro p hp e
 unfold getB at h
 have h1:bs.find? (fun p=>p.1 == n)=none:=by simpa using h
 have:=List.find?_eq_none.1 h1 p hp
 simp [e] at this
theorem putB_new {bs:BM} {n:Int} {b:Br} (h:getB bs n=none) (k:Nat) (h1:∀ i p,i<k→bs[i]?=some p→p.1<n) (h2:∀ p,bs[k]?=some p→¬ p.1<n):putB bs n b=bs.take k++(n,b) :: bs.drop k:=by
 have h0:=getB_none h
 unfold putB
 rw [delB_none h0]
 exact insB_at (n,b) bs k h1 (fun p hp=>by
  have:=h2 p hp
  have:=h0 p (List.mem_of_getElem? hp)
  show n<p.1
  omega)
theorem flatB_take:∀ (l:BM) (k:Nat),flatB (l.take k)=(flatB l).take (k*3)
 | [],k=>by simp [flatB]
 | y :: r,0=>by simp [flatB]
 | y :: r,k+1=>by
  rw [List.take_succ_cons]
  simp only [flatB]
  rw [flatB_take r k,List.take_append]
  have e:(k+1)*3 - ([.int .i64 y.1,.int .i64 y.2.life,.bool y.2.up]:List Value).length=k*3:=by simp;omega
  have e2:([.int .i64 y.1,.int .i64 y.2.life,.bool y.2.up]:List Value).take ((k+1)*3)=([.int .i64 y.1,.int .i64 y.2.life,.bool y.2.up]:List Value):=List.take_of_length_le (by show 3≤_;omega)
  rw [e,e2]
theorem flatB_drop:∀ (l:BM) (k:Nat),flatB (l.drop k)=(flatB l).drop (k*3)
 | [],k=>by simp [flatB]
 | y :: r,0=>by simp [flatB]
 | y :: r,k+1=>by
  rw [List.drop_succ_cons]
  simp only [flatB]
  rw [flatB_drop r k,List.drop_append]
  have e:(k+1)*3 - ([.int .i64 y.1,.int .i64 y.2.life,.bool y.2.up]:List Value).length=k*3:=by simp;omega
  have e2:([.int .i64 y.1,.int .i64 y.2.life,.bool y.2.up]:List Value).drop ((k+1)*3)=[]:=List.drop_of_length_le (by show 3≤_;omega)
  rw [e,e2]
  rfl
theorem flatB_one (l:BM):∀ u∈flatB l,u.oneCell'=true:=by
 induction l with
 | nil=>intro u hu;simp [flatB] at hu
 | cons y r ih =>
  intro u hu
  simp only [flatB,List.mem_append] at hu
  rcases hu with hu | hu
  ·simp at hu
   rcases hu with rfl | rfl | rfl <;> rfl
  ·exact ih u hu
theorem info72:∃ i,Tryz.prog.info? 72=some i∧i.zero=some (.agg #[.int .i64 0,.int .i64 0,.bool false])∧i.size=3∧i.bytes=24:=⟨_,rfl,rfl,rfl,rfl⟩
def zX:Value × Pt:=(.agg PZ,Pt.zero)
theorem zX9:(pc zX.1).length=9:=rfl
theorem info54z:∃ i,Tryz.prog.info? 54=some i∧i.zero=some zX.1∧i.size=9∧i.bytes=136:=⟨_,rfl,rfl,rfl,rfl⟩
def zA (n:Nat):Array Value:=(flatP (List.replicate n zX)).toArray
theorem zA_get (n i:Nat) (h:i<n*9):(zA n)[i]?=(pc zX.1)[i % 9]?:=by
 have e:i=i / 9*9+i % 9:=by omega
 have:=flatP_get (List.replicate n zX) (i / 9) (i % 9) (fun x hx=>by rw [List.eq_of_mem_replicate hx];rfl) (by omega)
 rw [← e] at this
 unfold zA
 rw [List.getElem?_toArray,this,List.getElem?_replicate,if_pos (by omega)]
 rfl
theorem zA_size (n:Nat):(zA n).size=n*9:=by
 unfold zA
 rw [List.size_toArray,flatP_length _ (fun x hx=>by rw [List.eq_of_mem_replicate hx];rfl),List.length_replicate]
theorem make30 (w:World) (n:Nat) (hn:n≤1000):(Instr.makeSlice 30 (.int .i64 (n:Int)) (.int .i64 (n:Int))).run Tryz.prog w=.ok (.slice (some ⟨w.heap.size,0,none⟩) n n) (w.alloc (.cells (zA n) 54)):=by
 obtain ⟨i,h1,h2,h3,h4⟩:=info54z
 have:=run_makeSlice (P:=Tryz.prog) w 30 54 i _ Tryz.underlying30 h1 h2 .i64 .i64 (n:Int) (n:Int) (by omega) (Int.le_refl _) (by rw [h3];simp;omega) (by rw [h4];omega) (by omega)
 rw [this,h3]
 have hcz:zX.1.cells=(pc zX.1).toArray:=by kernel_rfl
 have e:madeCells zX.1.cells (n*9)=zA n:=by
  apply Array.ext_getElem?
  intro i
  by_cases h:i<n*9
  ·rw [zA_get n i h]
   have hm:i % 9<9:=by omega
   rw [hcz]
   simp only [madeCells,List.size_toArray,zX9]
   simp [h]
   rw [List.getElem?_eq_getElem (by rw [zX9];exact hm)]
   simp [zX9,hm]
  ·have h1:(zA n)[i]?=none:=Array.getElem?_eq_none (by rw [zA_size];omega)
   have h2:(madeCells zX.1.cells (n*9))[i]?=none:=Array.getElem?_eq_none (by simp [madeCells];omega)
   rw [h1,h2]
 simp only [Int.toNat_natCast]
 rw [e]
theorem row_zero {w:World} {g n:Nat} (h:w.heap[g]?=some (.cells (zA n) 54)) (hn:n≤1000):w.ownsRow 0 54 9 (.slice (some ⟨g,0,none⟩) n n) (List.replicate n zX).length (flatP (List.replicate n zX)):=by
 have hl:=flatP_length (List.replicate n zX) (fun x hx=>by rw [List.eq_of_mem_replicate hx];rfl)
 refine ⟨hl,.inr ⟨g,n,zA n,by rw [List.length_replicate],Nat.zero_le _,h,by rw [List.length_replicate];exact Nat.le_refl _,by unfold maxLen;omega,zA_size n,?_⟩⟩
 unfold zA
 rw [List.take_of_length_le (by simpa using Nat.le_of_eq hl)]
def PInv (w wr:World) (P:List Pt) (k:Nat):Prop:=∃ ds:List (Value × Pt),ds.length=k∧ds.map (·.2)=P.take k∧wr.ownsRow 0 54 9 (.slice (some ⟨w.heap.size,0,none⟩) P.length P.length) (ds++List.replicate (P.length - k) zX).length (flatP (ds++List.replicate (P.length - k) zX))∧(∀ x∈ds,PartM wr x.1 x.2∧InP (fun b=>w.heap.size+1≤b) x.1 x.2)∧Below w.heap.size w wr
theorem PInv.start (w:World) (P:List Pt) (hn:P.length≤1000):PInv w (w.alloc (.cells (zA P.length) 54)) P 0 :=
 ⟨[],rfl,by simp,by simpa using row_zero (heap_alloc_new w (.cells (zA P.length) 54)) hn,fun x hx=>by simp at hx,(Below.refl _ _).alloc (Nat.le_refl _) _⟩
theorem PInv.lt {w wr:World} {P:List Pt} {k:Nat} (h:PInv w wr P k):∃ cur,wr.heap[w.heap.size]?=some (.cells cur 54 (0,0))∧cur.size=P.length*9:=by
 obtain ⟨ds,h1,h2,⟨_,⟨e,_⟩ | ⟨g,cap,cur,e,hB,hg,hn,hc,hs,ht⟩⟩,h4,h5⟩:=h
 ·cases e
 ·injection e with e1 e2 e3
  cases e1
  subst e3
  exact ⟨cur,hg,hs⟩
theorem PInv.next {w wr W N:World} {P:List Pt} {k:Nat} (h:PInv w wr P k) (hk:k<P.length) (hb:Below wr.heap.size wr W) {v:Value} (hv:PartM W v P[k]) (hX:InP (fun b=>wr.heap.size≤b) v P[k]) (hN:PutsR W N w.heap.size (k*9) (pc v)):PInv w N P (k+1):=by
 obtain ⟨cur,hcur,_⟩:=h.lt
 have hlt:w.heap.size<wr.heap.size:=(Array.getElem?_eq_some_iff.1 hcur).1
 obtain ⟨ds,h1,h2,h3,h4,h5⟩:=h
 have hX':InP (fun b=>w.heap.size+1≤b) v P[k]:=hX.mono (fun j hj=>by omega)
 have h9:∀ x∈ds++List.replicate (P.length - k) zX,(pc x.1).length=9:=fun x hx=>by
  rcases List.mem_append.1 hx with e | e
  ·exact pc_part (h4 x e).1
  ·rw [List.eq_of_mem_replicate e];rfl
 have hW:=row_kept (w1:=W) h3 (fun j hj=>by cases hj;exact hb.block _ hlt)
 have hS:=row_set hW h9 k (by simp;omega) (x:=(v,P[k])) (pc_part hv) hN
 have e:(ds++List.replicate (P.length - k) zX).set k (v,P[k])=(ds++[(v,P[k])])++List.replicate (P.length - (k+1)) zX:=by
  obtain ⟨m,hm⟩:∃ m,P.length - k=m+1:=⟨P.length - k - 1,by omega⟩
  rw [hm,show P.length - (k+1)=m by omega,List.replicate_succ,List.set_append_right _ _ (by omega),h1,Nat.sub_self]
  simp
 rw [e] at hS
 refine ⟨ds++[(v,P[k])],by simp [h1],?_,hS,fun x hx=>?_,?_⟩
 ·rw [List.map_append,h2,List.take_succ_eq_append_getElem hk]
  rfl
 ·rcases List.mem_append.1 hx with e | e
  ·exact ⟨((h4 x e).1.under hb).kept (h4 x e).2 (fun j hj=>hN.other j (by omega)) (by rw [hN.size];exact Nat.le_refl _),(h4 x e).2⟩
  ·obtain rfl:=List.mem_singleton.1 e
   exact ⟨hv.kept hX' (fun j hj=>hN.other j (by omega)) (by rw [hN.size];exact Nat.le_refl _),hX'⟩
 ·exact hN.below (h5.trans (hb.mono h5.size)) (Nat.le_refl _)
def PartsAt (B:Nat) (w:World) (v:Value) (P:List Pt):Prop:=∃ ds:List (Value × Pt),ds.map (·.2)=P∧w.ownsRow 0 54 9 v P.length (flatP ds)∧(∀ x∈ds,PartM w x.1 x.2∧InP (fun b=>B+1≤b) x.1 x.2)∧v.ownBlock=some B
theorem PInv.done {w wr:World} {P:List Pt} {k:Nat} (h:PInv w wr P k) (hk:k=P.length):PartsAt w.heap.size wr (.slice (some ⟨w.heap.size,0,none⟩) P.length P.length) P∧Below w.heap.size w wr:=by
 obtain ⟨ds,h1,h2,h3,h4,h5⟩:=h
 subst hk
 rw [Nat.sub_self,List.replicate_zero,List.append_nil,h1] at h3
 rw [List.take_length] at h2
 exact ⟨⟨ds,h2,h3,h4,rfl⟩,h5⟩
theorem parts_any {w:World} {Z:Nat→Prop} {q:Nat} {I:Im} (hi:Img w Z q I):Calls Tryz.prog 23 #[.pointer (some ⟨q,0,none⟩)] w fun e w'=>∃ v,e=.returned v∧PartsAt w.heap.size w' v I.parts∧Below w.heap.size w w':=by
 obtain ⟨L,b,vt,vp,ve,ps,h,hz1,hz2,hz3⟩:=hi
 have HPL:=hid h.plen
 have hf:=h.ok.few
 obtain ⟨oa,cap,hvp,_,_,_,hat⟩:=row_shape h.parts
 rw [← HPL.out] at hvp hat
 subst hvp
 have HI:=hid h
 have c3:=h.c3
 have hqlt:q<w.heap.size:=h.lt (.inl rfl)
 have hmk:=make30 w I.parts.length (by omega)
 have HST:=hid (PInv.start w I.parts (by omega))
 have d3:=(h.under HST.out.choose_spec.2.2.2.2).c3
 clear hz1 hz2 hz3 h
 go_enter Tryz.func23,Tryz.ntmps23
 go_upto_region 2 with fail
 clear hmk c3
 generalize w.alloc (.cells (zA I.parts.length) 54)=W0 at *
 go_wp2_with fail
 go_loopg [17] I.parts.length (fun kx s wr=>∃ k:Nat,k≤I.parts.length∧I.parts.length - k≤kx∧s=.int .i64 (k:Int)∧Hid (PInv w wr I.parts k))
 case atStart=>exact ⟨0,Nat.zero_le _,by omega,rfl,HST.out⟩
 case round =>
  obtain ⟨k,hk,hkx,rfl,HK⟩:=hrel
  by_cases hlt:k<I.parts.length
  ·obtain ⟨g,rfl⟩:=hat (by omega)
   have hbw:=HK.out.choose_spec.2.2.2.2
   have h2:=HI.out.under hbw
   have hxi:ps[k]?=some ps[k]:=List.getElem?_eq_getElem (by rw [← HPL.out];exact hlt)
   have hxc:=fun t ht u hu=>(h2.at_ k _ hxi t ht u hu)
   have hpm:=(h2.each ps[k] (by simp)).1
   have hpp:ps[k].2=I.parts[k]:=by
    have e:(ps.map (·.2))[k]?=some I.parts[k]:=by rw [← h2.abs];exact List.getElem?_eq_getElem hlt
    rw [List.getElem?_map,hxi] at e
    simpa using e
   rw [hpp] at hpm
   obtain ⟨a1,c1,a2,c2,a3,c3,a4,c4,hu,_⟩:=hpm.open
   rw [hu] at hxc hpm
   have HPM:=hid hpm
   have HNX:Hid (∀ W N v,Below wr.heap.size wr W→PartM W v I.parts[k]→InP (fun j=>wr.heap.size≤j) v I.parts[k]→PutsR W N w.heap.size (k*9) (pc v)→PInv w N I.parts (k+1)):=fun W N v hb hv hX hN=>HK.out.next hlt hb hv hX hN
   obtain ⟨cur,hcur,hcs⟩:=HK.out.lt
   have HCU:=hid (And.intro hcur hcs)
   have hglt:w.heap.size<wr.heap.size:=(Array.getElem?_eq_some_iff.1 hcur).1
   have hx9:k*9+9≤I.parts.length*9:=by omega
   generalize I.parts[k]=P at *
   have r0:=hxc 0 (by decide) _ rfl
   have r1:=hxc 1 (by decide) _ rfl
   have r2:=hxc 2 (by decide) _ rfl
   have r3:=hxc 3 (by decide) _ rfl
   have r4:=hxc 4 (by decide) _ rfl
   have r5:=hxc 5 (by decide) _ rfl
   have r6:=hxc 6 (by decide) _ rfl
   have r7:=hxc 7 (by decide) _ rfl
   have r8:=hxc 8 (by decide) _ rfl
   rw [Nat.add_zero] at r0
   have hlt':(k:Int)<(I.parts.length:Int):=by omega
   have HBW:Hid (Below wr.heap.size wr (wr.alloc (.cells (PP P a1 c1 a2 c2 a3 c3 a4 c4) 54))):=(Below.refl _ _).alloc (Nat.le_refl _) _
   have HCL:=hid (clone_any (HPM.out.under HBW.out))
   clear hxc hpm hpp hxi h2 hu hcur hcs HK hbw d3
   go_wp2_with fail
   refine HCL.out.mono ?_
   rintro e W2 ⟨v2,rfl,hv2,hX2,hb2⟩
   have hbb:Below wr.heap.size wr W2:=HBW.out.trans (hb2.mono HBW.out.size)
   have hcu:=(hbb.block _ hglt).trans HCU.out.1
   have hcz:=HCU.out.2
   have HC:=hid (fun N=>HNX.out W2 N v2 hbb hv2 (hX2.mono (fun j hj=>Nat.le_trans HBW.out.size hj)))
   obtain ⟨z1,y1,z2,y2,z3,y3,z4,y4,rfl,_⟩:=hv2.open
   have HEND:=hid (HC.out _ (puts_all [.int .i64 P.id,.int .i64 P.leader,.int .i64 P.epoch,.int .i64 P.ver,.slice z1 P.isr.length y1,.slice z2 P.reps.length y2,.slice z3 P.add.length y3,.slice z4 P.rem.length y4,.int .i64 P.min] W2 w.heap.size (k*9)))
   have cc:∀ t,t<9→∃ u,W2.cell? ⟨w.heap.size,k*9+t,none⟩=some u:=fun t ht=>⟨_,cell_blk hcu (k*9+t) _ (Array.getElem?_eq_getElem (by omega))⟩
   obtain ⟨u0,s0⟩:=cc 0 (by decide)
   obtain ⟨u1,s1⟩:=cc 1 (by decide)
   obtain ⟨u2,s2⟩:=cc 2 (by decide)
   obtain ⟨u3,s3⟩:=cc 3 (by decide)
   obtain ⟨u4,s4⟩:=cc 4 (by decide)
   obtain ⟨u5,s5⟩:=cc 5 (by decide)
   obtain ⟨u6,s6⟩:=cc 6 (by decide)
   obtain ⟨u7,s7⟩:=cc 7 (by decide)
   obtain ⟨u8,s8⟩:=cc 8 (by decide)
   rw [Nat.add_zero] at s0
   have f0:=frz_blk hcu (k*9)
   have f1:=frz_blk hcu (k*9+1)
   have f2:=frz_blk hcu (k*9+2)
   have f3:=frz_blk hcu (k*9+3)
   have f4:=frz_blk hcu (k*9+4)
   have f5:=frz_blk hcu (k*9+5)
   have f6:=frz_blk hcu (k*9+6)
   have f7:=frz_blk hcu (k*9+7)
   have f8:=frz_blk hcu (k*9+8)
   clear hv2 hX2 hb2 hbb hcu hcz cc HC HCL HNX HPM HBW HCU r0 r1 r2 r3 r4 r5 r6 r7 r8
   go_wp2_with fail
   go_roundg (I.parts.length - (k+1))
   case measure=>omega
   case rel=>exact ⟨k+1,by omega,Nat.le_refl _,by go_num,HEND.out⟩
  ·have hlt':¬ (k:Int)<(I.parts.length:Int):=by omega
   go_wp2_with fail
   go_ret
   obtain ⟨g1,g2⟩:=HK.out.done (by omega)
   exact ⟨_,rfl,g1,g2⟩
theorem part_no {w:World} {Z:Nat→Prop} {q:Nat} {I:Im} (hi:Img w Z q I) (n:Int) (hn:I64 n) (h:upB n I.parts.length=false):Calls Tryz.prog 30 #[.pointer (some ⟨q,0,none⟩),.int .i64 n] w fun e w'=>e=.returned (.tuple #[zX.1,.bool false])∧Below w.heap.size w w':=by
 obtain ⟨L,b,vt,vp,ve,ps,h1,hz1,hz2,hz3⟩:=hi
 have HPL:=hid h1.plen
 have hf:=h1.ok.few
 obtain ⟨oa,cap,hvp,_,_,_,hat⟩:=row_shape h1.parts
 rw [← HPL.out] at hvp hat
 subst hvp
 have HU:=hid (fun V=>upTo_any n (I.parts.length:Int) V hn (by unfold I64;omega))
 rw [h] at HU
 have hqlt:q<w.heap.size:=h1.lt (.inl rfl)
 have hbA:Below w.heap.size w (w.alloc (.cells PZ 54)):=(Below.refl _ _).alloc (Nat.le_refl _) _
 have HBA:=hid hbA
 have HB:=hid (heap_alloc_new w (.cells PZ 54))
 have d3:=(h1.under hbA).c3
 clear hz1 hz2 hz3 h1 h hbA hat
 go_enter Tryz.func30,Tryz.ntmps30
 go_upto_region 1 with fail
 generalize w.alloc (.cells PZ 54)=W at *
 go_wp2_with fail
 refine (HU.out _).mono ?_
 rintro e w9 ⟨rfl,rfl⟩
 obtain ⟨s0,s1,s2,s3,s4,s5,s6,s7,s8⟩:=cells9 HB.out
 have f0:=fun j=>frz_blk HB.out j
 go_wp2_with fail
 clear s0 s1 s2 s3 s4 s5 s6 s7 s8 f0
 obtain ⟨N,hN⟩:∃ N,N=puts W w.heap.size 0 [.int .i64 0,.int .i64 0,.int .i64 0,.int .i64 0,.slice none 0 0,.slice none 0 0,.slice none 0 0,.slice none 0 0,.int .i64 0]:=⟨_,rfl⟩
 have HR:PutsR W N w.heap.size 0 [.int .i64 0,.int .i64 0,.int .i64 0,.int .i64 0,.slice none 0 0,.slice none 0 0,.slice none 0 0,.slice none 0 0,.int .i64 0]:=by rw [hN];exact puts_all _ _ _ _
 show bodyPost Tryz.prog Tryz.f30 _ Exit.ret _ (puts W w.heap.size 0 [.int .i64 0,.int .i64 0,.int .i64 0,.int .i64 0,.slice none 0 0,.slice none 0 0,.slice none 0 0,.slice none 0 0,.int .i64 0])
 rw [← hN]
 clear hN
 have hx:=HR.box9 HB.out rfl
 obtain ⟨s0,s1,s2,s3,s4,s5,s6,s7,s8⟩:=cells9 hx
 exact bodyPost_ret (v:=.tuple #[.agg PZ,.bool false]) (by simp [results,Tryz.results30,go_sem,s0,s1,s2,s3,s4,s5,s6,s7,s8]) rfl ⟨rfl,HR.below HBA.out (Nat.le_refl _)⟩
theorem IS.find_yes {w W:World} {q:Nat} {I:Im} {X:Nat→Prop} (h:IS w W q I X) (s:ByteArray) (hn:hasT I.tops s=true):Calls Tryz.prog 29 #[.pointer (some ⟨q,0,none⟩),.string s] W fun e w'=>(∃ v' t,e=.returned v'∧t∈I.tops∧sameN t.name s=true∧IL w' v' (idsT t)∧In (fun b=>W.heap.size≤b) v' (idsT t))∧Below W.heap.size W w'∧IS w w' q I X:=by
 obtain ⟨⟨Z,h1,h2⟩,h3,h4⟩:=h
 refine (Go.Proofs.YtcffomhcmilcpaaGreat.find_yes h1 s hn).mono ?_
 rintro e w' ⟨v',t,rfl,a,b,c,d,hb⟩
 exact ⟨⟨v',t,rfl,a,b,c,d⟩,hb,IS.under ⟨⟨Z,h1,h2⟩,h3,h4⟩ hb⟩
theorem IS.parts {w W:World} {q:Nat} {I:Im} {X:Nat→Prop} (h:IS w W q I X):Calls Tryz.prog 23 #[.pointer (some ⟨q,0,none⟩)] W fun e w'=>(∃ v,e=.returned v∧PartsAt W.heap.size w' v I.parts)∧Below W.heap.size W w'∧IS w w' q I X:=by
 obtain ⟨⟨Z,h1,h2⟩,h3,h4⟩:=h
 refine (parts_any h1).mono ?_
 rintro e w' ⟨v,rfl,a,hb⟩
 exact ⟨⟨v,rfl,a⟩,hb,IS.under ⟨⟨Z,h1,h2⟩,h3,h4⟩ hb⟩
theorem IS.part_no {w W:World} {q:Nat} {I:Im} {X:Nat→Prop} (h:IS w W q I X) (n:Int) (hn:I64 n) (hu:upB n I.parts.length=false):Calls Tryz.prog 30 #[.pointer (some ⟨q,0,none⟩),.int .i64 n] W fun e w'=>e=.returned (.tuple #[zX.1,.bool false])∧Below W.heap.size W w'∧IS w w' q I X:=by
 obtain ⟨⟨Z,h1,h2⟩,h3,h4⟩:=h
 refine (Go.Proofs.YtcffomhcmilcpaaGreat.part_no h1 n hn hu).mono ?_
 rintro e w' ⟨rfl,hb⟩
 exact ⟨rfl,hb,IS.under ⟨⟨Z,h1,h2⟩,h3,h4⟩ hb⟩
end Go.Proofs.YtcffomhcmilcpaaGreat
