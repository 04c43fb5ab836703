/- The document: Apply of a topic;of any record. -/
import Derived.Test.YtcffomhcmilcpaaGreatC44
import Derived.Test.YtcffomhcmilcpaaGreatC46
import Derived.Test.YtcffomhcmilcpaaGreatC34
import Derived.Test.YtcffomhcmilcpaaGreatC31
import Derived.Test.YtcffomhcmilcpaaGreatC24
import Derived.Test.YtcffomhcmilcpaaGreatC43
import Derived.Test.YtcffomhcmilcpaaGreatC32
set_option maxRecDepth 100000
set_option maxHeartbeats 20000000
set_option linter.unusedVariables false
set_option linter.unusedSimpArgs false
namespace Go.Proofs.YtcffomhcmilcpaaGreat
open Go.RowKit Go.Maps
theorem rapply_4 {w:World} {Z:Nat→Prop} {q:Nat} {I:Im} (hi:DImg w Z q I) {v:Value} {r:Rc} (hr:RecM w v r) (hnz:InR (fun k=>¬ Z k) v r) (ha:I.applied<1000000000000) (hsum:sumT I.tops=(I.parts.length:Int)) (hk:r.kind=4):Calls Tryz.prog 13 #[.pointer (some ⟨q,0,none⟩),v] w fun e w'=>e=.returned (.tuple #[.int .i64 (applyI I r).2.1,.int .i64 (applyI I r).2.2])∧DAfter Z w w' q (applyI I r).1:=by
 obtain ⟨la,lc,rfl,c0,f0,hql,hap,HXZ,HOKR,HH⟩:=rhead hi hr hnz ha
 obtain ⟨rk,ra,rb,rc,rd,rn,rt,rl⟩:=r
 simp only at hk ⊢
 obtain ⟨R,hR⟩:∃ R,R=applyI I ⟨rk,ra,rb,rc,rd,rn,rt,rl⟩:=⟨_,rfl⟩
 have HRE:Hid (R=doI (nextI I) ⟨rk,ra,rb,rc,rd,rn,rt,rl⟩):=hR
 rw [← hR]
 clear hR hi hr hnz
 have hqn:¬ q=w.heap.size:=by omega
 have hqn2:¬ w.heap.size=q:=by omega
 have HSUM:Hid (sumT (nextI I).tops=((nextI I).parts.length:Int)):=hsum
 have HK:=hid hk
 clear hk hsum
 have e0:R=topicI (nextI I) ⟨rk,ra,rb,rc,rd,rn,rt,rl⟩:=by
  have h9:=HK.out
  rw [HRE.out];unfold doI;simp only;rw [h9];simp
 have HE0:=hid e0
 clear e0
 go_enter Tryz.func13,Tryz.ntmps13
 go_upto_region 2 with fail
 refine at_world13 (F:=Code.wp _ _ _ _) (H13 w Z q I ⟨rk,ra,rb,rc,rd,rn,rt,rl⟩ la lc) HH.out ?_
 intro W hW
 have HI:=hid hW.1
 have HKS:=hid hW.2.1
 have HBX:=hid hW.2.2.1
 have HRM2:=hid hW.2.2.2
 simp only at HBX HRM2
 have HC:=hid (rtopic_any HI.out HRM2.out HSUM.out)
 obtain ⟨x,hx⟩:∃ x,x=w.heap.size:=⟨_,rfl⟩
 rw [← hx] at HBX HXZ ⊢
 clear c0 f0 hx hqn hqn2 hW HH
 obtain ⟨a0,a1,a2,a3,a4,a5,a6,a7⟩:=cells8 HBX.out
 have hk:=HK.out
 subst hk
 rw [← HE0.out] at HC
 obtain ⟨n1,hn1⟩:∃ n1,n1=R.2.1:=⟨_,rfl⟩
 obtain ⟨n2,hn2⟩:∃ n2,n2=R.2.2:=⟨_,rfl⟩
 rw [← hn1,← hn2] at HC
 have HN1:=hid hn1
 have HN2:=hid hn2
 clear HE0 HRE hn1 hn2
 go_wp2_with fail
 refine HC.out.mono ?_
 rintro e w2 ⟨rfl,hA⟩
 have HA:=hid (hA.from HKS.out)
 clear hA a0 a1 a2 a3 a4 a5 a6 a7
 go_wp2_with fail
 go_ret2
 exact ⟨by rw [← HN1.out,← HN2.out];rfl,HA.out⟩
theorem rapply_all {w:World} {Z:Nat→Prop} {q:Nat} {I:Im} (hi:DImg w Z q I) {v:Value} {r:Rc} (hr:RecM w v r) (hnz:InR (fun k=>¬ Z k) v r) (ha:I.applied<1000000000000) (hs:ImSum I):Calls Tryz.prog 13 #[.pointer (some ⟨q,0,none⟩),v] w fun e w'=>e=.returned (.tuple #[.int .i64 (applyI I r).2.1,.int .i64 (applyI I r).2.2])∧DAfter Z w w' q (applyI I r).1:=by
 by_cases h0:r.kind<1∨10<r.kind
 ·exact rapply_none hi hr hnz ha h0
 ·have h:r.kind=1∨r.kind=2∨r.kind=3∨r.kind=4∨r.kind=5∨r.kind=6∨r.kind=7∨r.kind=8∨r.kind=9∨r.kind=10:=by omega
  rcases h with h | h | h | h | h | h | h | h | h | h
  ·exact rapply_1 hi hr hnz ha h
  ·exact rapply_2 hi hr hnz ha h
  ·exact rapply_3 hi hr hnz ha h
  ·exact rapply_4 hi hr hnz ha hs h
  ·exact rapply_5 hi hr hnz ha h
  ·exact rapply_6 hi hr hnz ha h
  ·exact rapply_7 hi hr hnz ha h
  ·exact rapply_8 hi hr hnz ha h
  ·exact rapply_9 hi hr hnz ha h
  ·exact rapply_10 hi hr hnz ha h
def BI (w U:World) (q:Nat) (m:Nat):Prop:=∃ I,IS w U q I (fun _=>False)∧TN I∧I.applied=(m:Int)
theorem BI.put {w U:World} {q m:Nat} (h:BI w U q m) (hm:m<1000) {v:Value} {r:Rc} (hr:RecM U v r) (hl:InR (fun k=>k<w.heap.size∨False) v r) :
  Calls Tryz.prog 12 #[.pointer (some ⟨q,0,none⟩),v] U fun e w'=>(∃ a b,e=.returned (.tuple #[.int .i64 a,.int .i64 b]))∧BI w w' q (m+1):=by
 obtain ⟨I,h1,h2,h3⟩:=h
 refine (h1.put (noX U) (by omega) hr hl (J:=(applyI I r).1) (n:=(applyI I r).2.1) (m:=(applyI I r).2.2) rfl).mono ?_
 rintro e w' ⟨rfl,ho⟩
 exact ⟨⟨_,_,rfl⟩,_,ho.1,tn_apply h2 r,by rw [applied_apply,h3];push_cast;rfl⟩
theorem Script.at {w:World} {so:Option Addr} {cap:Nat} {ops:List Rc} (hat:ops≠[]→∃ b off,so=some ⟨b,off,none⟩∧∀ i (hi:i<ops.length),RecC w b (off+i*8) ops[i]) (m:Nat) (hm:m<ops.length) :
  ∃ b off la lc,so=some ⟨b,off,none⟩∧(∀ U,Below w.heap.size w U→U.cell? ⟨b,off+m*8,none⟩=some (.int .i64 ops[m].kind)∧U.cell? ⟨b,off+m*8+1,none⟩=some (.int .i64 ops[m].a)∧U.cell? ⟨b,off+m*8+2,none⟩=some (.int .i64 ops[m].b)∧U.cell? ⟨b,off+m*8+3,none⟩=some (.int .i64 ops[m].c)∧U.cell? ⟨b,off+m*8+4,none⟩=some (.int .i64 ops[m].d)∧U.cell? ⟨b,off+m*8+5,none⟩=some (.string ops[m].name)∧U.cell? ⟨b,off+m*8+6,none⟩=some (.string ops[m].text)∧U.cell? ⟨b,off+m*8+7,none⟩=some (.slice la ops[m].list.length lc)) ∧
   (∀ U,Below w.heap.size w U→RecM U (.agg #[.int .i64 ops[m].kind,.int .i64 ops[m].a,.int .i64 ops[m].b,.int .i64 ops[m].c,.int .i64 ops[m].d,.string ops[m].name,.string ops[m].text,.slice la ops[m].list.length lc]) ops[m]) ∧
   InR (fun k=>k<w.heap.size) (.agg #[.int .i64 ops[m].kind,.int .i64 ops[m].a,.int .i64 ops[m].b,.int .i64 ops[m].c,.int .i64 ops[m].d,.string ops[m].name,.string ops[m].text,.slice la ops[m].list.length lc]) ops[m]:=by
 obtain ⟨b,off,e,hc⟩:=hat (by intro e;rw [e] at hm;simp at hm)
 obtain ⟨la,lc,s0,s1,s2,s3,s4,s5,s6,s7,s8,s9,s10⟩:=hc m hm
 refine ⟨b,off,la,lc,e,fun U hU=>⟨kept_cell hU s0,kept_cell hU s1,kept_cell hU s2,kept_cell hU s3,kept_cell hU s4,kept_cell hU s5,kept_cell hU s6,kept_cell hU s7⟩,fun U hU=>⟨⟨_,rfl,s8.under hU⟩,s9,s10⟩,?_⟩
 intro a1 a2 a3 a4 a5 a6 a7 a8 e
 have e8:a8=.slice la ops[m].list.length lc:=by
  have:=congrArg (fun v=>match v with | .agg cs=>cs[7]? | _=>none) e
  simpa using this.symm
 rw [e8]
 exact s8.old
theorem DImg.kept {w w1:World} {Z:Nat→Prop} {q:Nat} {I:Im} (h:DImg w Z q I) (hk:∀ k,Z k→w1.heap[k]?=w.heap[k]?) (hs:w.heap.size≤w1.heap.size):DImg w1 Z q I:=by
 obtain ⟨L,vb,vt,vp,ve,ps,h1,h2,h3,h4⟩:=h
 exact ⟨L,vb,vt,vp,ve,ps,h1.kept (fun k hk'=>hk k (h2 k hk')) (fun k hk'=>hk k (h3 k hk')) hs,h2,h3,fun k hk'=>Nat.lt_of_lt_of_le (h4 k hk') hs⟩
def BothM (w0 W:World) (q r:Nat) (I J:Im) (X:Nat→Prop):Prop :=
 ∃ Zp Zd:Nat→Prop,Img W Zp q I∧DImg W Zd r J∧(∀ k,Zp k→w0.heap.size≤k∧¬ X k∧¬ Zd k)∧(∀ k,Zd k→w0.heap.size≤k∧¬ X k)∧Below w0.heap.size w0 W
section
variable {w0 W:World} {q r:Nat} {I J:Im} {X:Nat→Prop}
theorem BothM.under {V:World} (h:BothM w0 W q r I J X) (hb:Below W.heap.size W V):BothM w0 V q r I J X:=by
 obtain ⟨Z1,Z2,h1,h2,h3,h4,h5⟩:=h
 exact ⟨Z1,Z2,h1.under hb,h2.under hb,h3,h4,h5.trans (hb.mono h5.size)⟩
theorem BothM.below (h:BothM w0 W q r I J X):Below w0.heap.size w0 W:=by
 obtain ⟨Z1,Z2,h1,h2,h3,h4,h5⟩:=h
 exact h5
theorem BothM.more {Y:Nat→Prop} (h:BothM w0 W q r I J X) (hY:∀ k,Y k→X k∨W.heap.size≤k):BothM w0 W q r I J Y:=by
 obtain ⟨Z1,Z2,h1,h2,h3,h4,h5⟩:=h
 refine ⟨Z1,Z2,h1,h2,fun k hk=>⟨(h3 k hk).1,fun hy=>?_,(h3 k hk).2.2⟩,fun k hk=>⟨(h4 k hk).1,fun hy=>?_⟩,h5⟩
 ·rcases hY k hy with e | e
  ·exact (h3 k hk).2.1 e
  ·have:=h1.lt k hk;omega
 ·rcases hY k hy with e | e
  ·exact (h4 k hk).2 e
  ·have:=h2.lt k hk;omega
def MOut (w0 W W':World) (q r:Nat) (I J:Im) (X:Nat→Prop):Prop:=BothM w0 W' q r I J X∧(∀ k,X k→W'.heap[k]?=W.heap[k]?)∧W.heap.size≤W'.heap.size
theorem BothM.one (h:BothM w0 W q r I J X) (hX:∀ k,X k→k<W.heap.size) (ha:I.applied<1000000000000) (hs:ImSum I) {v:Value} {rc:Rc} (hr:RecM W v rc) (hl:InR (fun k=>k<w0.heap.size) v rc) :
  Calls Tryz.prog 12 #[.pointer (some ⟨q,0,none⟩),v] W fun e w'=>e=.returned (.tuple #[.int .i64 (applyI I rc).2.1,.int .i64 (applyI I rc).2.2])∧MOut w0 W w' q r (applyI I rc).1 J X:=by
 obtain ⟨Z1,Z2,h1,h2,h3,h4,h5⟩:=h
 refine (apply_all h1 hr (fun k a b c d n t lv e=>(hl k a b c d n t lv e).most fun k hk hz=>?_) ha hs).mono ?_
 ·have:=(h3 k hz).1;omega
 rintro e w' ⟨rfl,Z1',i1,i2,i3⟩
 refine ⟨rfl,⟨Z1',Z2,i1,h2.kept (fun k hk=>i3.block k (h2.lt k hk) (fun hz=>(h3 k hz).2.2 hk)) i3.size,fun k hk=>?_,h4,h5.trans (i3.below h5.size (fun k hk=>(h3 k hk).1))⟩,fun k hk=>i3.block k (hX k hk) (fun hz=>(h3 k hz).2.1 hk),i3.size⟩
 rcases i2 k hk with e | e
 ·exact h3 k e
 ·exact ⟨Nat.le_trans h5.size e,fun hx=>by have:=hX k hx;omega,fun hz=>by have:=h2.lt k hz;omega⟩
theorem BothM.two (h:BothM w0 W q r I J X) (hX:∀ k,X k→k<W.heap.size) (ha:J.applied<1000000000000) (hs:ImSum J) {v:Value} {rc:Rc} (hr:RecM W v rc) (hl:InR (fun k=>k<w0.heap.size) v rc) :
  Calls Tryz.prog 13 #[.pointer (some ⟨r,0,none⟩),v] W fun e w'=>e=.returned (.tuple #[.int .i64 (applyI J rc).2.1,.int .i64 (applyI J rc).2.2])∧MOut w0 W w' q r I (applyI J rc).1 X:=by
 obtain ⟨Z1,Z2,h1,h2,h3,h4,h5⟩:=h
 refine (rapply_all h2 hr (fun k a b c d n t lv e=>(hl k a b c d n t lv e).most fun k hk hz=>?_) ha hs).mono ?_
 ·have:=(h4 k hz).1;omega
 rintro e w' ⟨rfl,Z2',i1,i2,i3⟩
 refine ⟨rfl,⟨Z1,Z2',h1.kept (fun k hk=>i3.block k (h1.lt k hk) (fun hz=>(h3 k hk).2.2 hz)) i3.size,i1,fun k hk=>⟨(h3 k hk).1,(h3 k hk).2.1,fun hz=>?_⟩,fun k hk=>?_,h5.trans (i3.below h5.size (fun k hk=>(h4 k hk).1))⟩,fun k hk=>i3.block k (hX k hk) (fun hz=>(h4 k hz).2 hk),i3.size⟩
 ·rcases i2 k hz with e | e
  ·exact (h3 k hk).2.2 e
  ·have:=h1.lt k hk;omega
 ·rcases i2 k hk with e | e
  ·exact h4 k e
  ·exact ⟨Nat.le_trans h5.size e,fun hx=>by have:=hX k hx;omega⟩
theorem BothM.alike (h:BothM w0 W q r I I X) (ht:TN I):Calls Tryz.prog 14 #[.pointer (some ⟨q,0,none⟩),.pointer (some ⟨r,0,none⟩)] W fun e w'=>e=.returned (.bool true)∧Below W.heap.size W w':=by
 obtain ⟨Z1,Z2,h1,h2,h3,h4,h5⟩:=h
 exact alike_any h1 h2 ht
theorem BothM.keep (h:BothM w0 W q r I J X):Calls Tryz.prog 17 #[.pointer (some ⟨q,0,none⟩)] W fun e w'=>e=.returned (.string (Go.Proofs.YtcffomhcmilcpaaGreat.W.strOf (keepI I)))∧Below W.heap.size W w':=by
 obtain ⟨Z1,Z2,h1,h2,h3,h4,h5⟩:=h
 exact keep_any h1
def TriM (w0 W:World) (q r n:Nat) (I:Im) (X:Nat→Prop):Prop :=
 ∃ Zp Zd Zn:Nat→Prop,Img W Zp q I∧DImg W Zd r I∧Img W Zn n I∧(∀ k,Zp k→w0.heap.size≤k∧¬ X k∧¬ Zd k)∧(∀ k,Zn k→w0.heap.size≤k∧¬ X k∧¬ Zd k)∧(∀ k,Zd k→w0.heap.size≤k∧¬ X k)∧Below w0.heap.size w0 W
theorem BothM.load (h:BothM w0 W q r I I X) (hX:∀ k,X k→k<W.heap.size) (hl:LdOk I):Calls Tryz.prog 16 #[.string (Go.Proofs.YtcffomhcmilcpaaGreat.W.strOf (keepI I))] W fun e w'=>∃ n,e=.returned (.tuple #[.pointer (some ⟨n,0,none⟩),.int .i64 0])∧TriM w0 w' q r n I X∧Below W.heap.size W w':=by
 obtain ⟨Z1,Z2,h1,h2,h3,h4,h5⟩:=h
 refine (load_good hl).mono ?_
 rintro e w' ⟨n,rfl,Z,g1,g2,g3⟩
 exact ⟨n,rfl,⟨Z1,Z2,Z,h1.under g3,h2.under g3,g1,h3,fun k hk=>⟨Nat.le_trans h5.size (g2 k hk),fun hx=>by have:=hX k hx;have:=g2 k hk;omega,fun hz=>by have:=h2.lt k hz;have:=g2 k hk;omega⟩,h4,h5.trans (g3.mono h5.size)⟩,g3⟩
theorem TriM.first {n:Nat} (h:TriM w0 W q r n I X):BothM w0 W q r I I X:=by
 obtain ⟨Z1,Z2,Z3,h1,h2,h3,h4,h5,h6,h7⟩:=h
 exact ⟨Z1,Z2,h1,h2,h4,h6,h7⟩
theorem TriM.last {n:Nat} (h:TriM w0 W q r n I X):BothM w0 W n r I I X:=by
 obtain ⟨Z1,Z2,Z3,h1,h2,h3,h4,h5,h6,h7⟩:=h
 exact ⟨Z3,Z2,h3,h2,h5,h6,h7⟩
theorem TriM.under {n:Nat} {V:World} (h:TriM w0 W q r n I X) (hb:Below W.heap.size W V):TriM w0 V q r n I X:=by
 obtain ⟨Z1,Z2,Z3,h1,h2,h3,h4,h5,h6,h7⟩:=h
 exact ⟨Z1,Z2,Z3,h1.under hb,h2.under hb,h3.under hb,h4,h5,h6,h7.trans (hb.mono h7.size)⟩
def QuaM (w0 W:World) (q r n c:Nat) (I:Im) (X:Nat→Prop):Prop:=∃ B:World,Below B.heap.size B W∧TriM w0 B q r n I X∧∃ Z,Img W Z c I∧∀ k,Z k→B.heap.size≤k
theorem TriM.clone {n:Nat} (h:TriM w0 W q r n I X):Calls Tryz.prog 18 #[.pointer (some ⟨q,0,none⟩)] W fun e w'=>∃ c,e=.returned (.pointer (some ⟨c,0,none⟩))∧QuaM w0 w' q r n c I X∧Below W.heap.size W w':=by
 obtain ⟨Z1,Z2,Z3,h1,_⟩:=id h
 refine (kclone_any h1).mono ?_
 rintro e w' ⟨c,rfl,hz,hb⟩
 exact ⟨c,rfl,⟨W,hb,h,hz⟩,hb⟩
theorem QuaM.under {n c:Nat} {V:World} (h:QuaM w0 W q r n c I X) (hb:Below W.heap.size W V):QuaM w0 V q r n c I X:=by
 obtain ⟨B,h1,h2,Z,h3,h4⟩:=h
 exact ⟨B,h1.trans (hb.mono h1.size),h2,Z,h3.under hb,h4⟩
theorem QuaM.apply {n c:Nat} (h:QuaM w0 W q r n c I X) (ha:I.applied<1000000000000) (hs:ImSum I) {v:Value} {rc:Rc} (hr:RecM W v rc) (hl:InR (fun k=>k<w0.heap.size) v rc) :
  Calls Tryz.prog 12 #[.pointer (some ⟨c,0,none⟩),v] W fun e w'=>(∃ a b,e=.returned (.tuple #[.int .i64 a,.int .i64 b]))∧TriM w0 w' q r n I X:=by
 obtain ⟨B,h1,h2,Z,h3,h4⟩:=h
 obtain ⟨_,_,_,_,_,_,_,_,_,hb⟩:=id h2
 refine (apply_all h3 hr (fun k a b c d n t lv e=>(hl k a b c d n t lv e).most fun k hk hz=>?_) ha hs).mono ?_
 ·have:=h4 k hz;have:=hb.size;omega
 rintro e w' ⟨rfl,Z',i1,i2,i3⟩
 exact ⟨⟨_,_,rfl⟩,h2.under (h1.trans (i3.below h1.size h4))⟩
end
theorem BothM.new {w0 W W1:World} (hb:Below w0.heap.size w0 W) (hi:Img W1 (fun k=>k=W.heap.size∨k=W.heap.size+1) (W.heap.size+1) Im.new) (hb1:Below W.heap.size W W1):BothM w0 (W1.alloc (.cells #[.int .i64 0,.slice none 0 0,.slice none 0 0,.slice none 0 0,.slice none 0 0] 32)) (W.heap.size+1) W1.heap.size Im.new Im.new (fun _=>False):=by
 have hB:Below W1.heap.size W1 (W1.alloc (.cells #[.int .i64 0,.slice none 0 0,.slice none 0 0,.slice none 0 0,.slice none 0 0] 32)):=(Below.refl _ _).alloc (Nat.le_refl _) _
 have hl:=hi.lt
 have e1:=hl W.heap.size (.inl rfl)
 have s0:=hb.size
 have s1:=hb1.size
 refine ⟨_,fun k=>k=W1.heap.size,hi.under hB,?_,fun k hk=>⟨?_,id,fun h=>?_⟩,fun k hk=>⟨?_,id⟩,(hb.trans (hb1.mono s0)).trans (hB.mono (by omega))⟩
 ·refine ⟨fun _=>False,.slice none 0 0,.slice none 0 0,.slice none 0 0,.slice none 0 0,[],⟨heap_alloc_new _ _,World.ownsRow_nil _ _ _ _,World.ownsRow_nil _ _ _ _,World.ownsRow_nil _ _ _ _,World.ownsRow_nil _ _ _ _,(fun x hx=>by cases hx),rfl,fun k hk=>hk.elim,hi.ok⟩,fun k hk=>?_,fun k hk=>hk.elim,fun k hk=>?_⟩
  ·rcases hk with h | h | h | h | h
   ·exact h
   ·cases h
   ·cases h
   ·cases h
   ·cases h
  ·rw [show k=W1.heap.size from hk];simp
 ·rcases hk with h | h <;> omega
 ·have h:k=W1.heap.size:=h
  have:=hl k hk
  omega
 ·have h:k=W1.heap.size:=hk
  omega
end Go.Proofs.YtcffomhcmilcpaaGreat
