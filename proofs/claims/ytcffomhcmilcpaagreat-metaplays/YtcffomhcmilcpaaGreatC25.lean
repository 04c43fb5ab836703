/- Which life a broker has. -/
import Derived.Test.YtcffomhcmilcpaaGreatC5
import Derived.Test.YtcffomhcmilcpaaGreatC23
import Derived.Test.YtcffomhcmilcpaaGreatC18
import Derived.Test.YtcffomhcmilcpaaGreatC4
import Derived.Test.YtcffomhcmilcpaaGreatC6
set_option maxRecDepth 100000
set_option maxHeartbeats 20000000
set_option linter.unusedVariables false
set_option linter.unusedSimpArgs false
namespace Go.Proofs.YtcffomhcmilcpaaGreat
open Go.RowKit Go.Maps
theorem life_any {w:World} {Z:Nat→Prop} {q:Nat} {I:Im} (hi:Img w Z q I) (n:Int) (hn:I64 n):Calls Tryz.prog 40 #[.pointer (some ⟨q,0,none⟩),.int .i64 n] w fun e w'=>e=.returned (.tuple #[.int .i64 (valB I.brs n).life,.bool (getB I.brs n).isSome])∧Below w.heap.size w w':=by
 obtain ⟨L,b,vt,vp,ve,ps,h,_⟩:=hi
 have c1:=h.c1
 have hqlt:q<w.heap.size:=h.lt (.inl rfl)
 have hlk:∀ V,Below w.heap.size w V→(Instr.lookup 67 (.map (some b)) (.int .i64 n) true).run Tryz.prog V=.ok (.tuple #[(valB I.brs n).val,.bool (getB I.brs n).isSome]) V:=fun V hV=>(h.under hV).look_ok n hn
 generalize valB I.brs n=x at *
 obtain ⟨lf,bu⟩:=x
 generalize (getB I.brs n).isSome=kn at *
 simp only [Br.val] at hlk ⊢
 have k1:=hlk _ (Below.refl _ _)
 have n2:¬ q=w.heap.size:=by omega
 have n4:¬ w.heap.size=q:=by omega
 have HB:=hid (Below.refl w.heap.size w)
 clear h hlk
 go_enter Tryz.func40,Tryz.ntmps40
 go_upto_region 1 with fail
 go_wp2_with fail
 go_ret2
 exact ⟨rfl,by first | exact HB.out.alloc (Nat.le_refl _) _ | exact (HB.out.alloc (Nat.le_refl _) _).drew⟩
theorem insB_first (x:Int × Br):∀ bs:BM,(∀ p∈bs,x.1<p.1)→insB x bs=x :: bs
 | [],_=>rfl
 | y :: r,h=>by unfold insB;rw [if_pos (h y (by simp))]
theorem delB_none {bs:BM} {n:Int} (h:∀ p∈bs,p.1≠n):delB bs n=bs:=by
 unfold delB
 rw [List.filter_eq_self]
 intro p hp
 have:=h p hp
 simp [this]
theorem putB_set {n:Int} {b0 b:Br}:∀ (bs:BM) (i:Nat),bs.Pairwise (fun p q=>p.1<q.1)→bs[i]?=some (n,b0)→putB bs n b=bs.set i (n,b)
 | [],i,_,h=>by simp at h
 | y :: r,0,hk,h=>by
  simp at h
  subst h
  have hk':=List.pairwise_cons.1 hk
  have e:delB ((n,b0) :: r) n=r:=by
   have:delB ((n,b0) :: r) n=delB r n:=by unfold delB;simp
   rw [this,delB_none (fun p hp=>by have:=hk'.1 p hp;simp at this;omega)]
  unfold putB
  rw [e,insB_first (n,b) _ (fun p hp=>hk'.1 p hp)]
  simp
 | y :: r,i+1,hk,h=>by
  have hk':=List.pairwise_cons.1 hk
  have h':r[i]?=some (n,b0):=by simpa using h
  have hlt:y.1<n:=hk'.1 _ (List.mem_of_getElem? h')
  have ih:=putB_set (b:=b) r i hk'.2 h'
  have e:delB (y :: r) n=y :: delB r n:=by
   unfold delB
   have:(!(y.1 == n))=true:=by simp;omega
   simp [List.filter_cons,this]
  unfold putB at ih ⊢
  rw [e]
  unfold insB
  rw [if_neg (by simp;omega),ih]
  simp
theorem posB_none {bs:BM} {n:Int} (h:getB bs n=none):posB bs n=-1:=by
 unfold getB at h
 have h1:bs.find? (fun p=>p.1 == n)=none:=by simpa using h
 have:bs.findIdx? (fun p=>p.1 == n)=none:=by
  rw [List.findIdx?_eq_none_iff]
  intro x hx
  have:=List.find?_eq_none.1 h1 x hx
  simpa using this
 unfold posB
 rw [this]
theorem posB_some:∀ {bs:BM} {n:Int} {b:Br},getB bs n=some b→∃ i:Nat,posB bs n=(i:Int)∧bs[i]?=some (n,b)
 | [],n,b,h=>by simp [getB] at h
 | y :: r,n,b,h=>by
  by_cases e:y.1=n
  ·refine ⟨0,?_,?_⟩
   ·unfold posB
    rw [List.findIdx?_cons]
    simp [e]
   ·unfold getB at h
    simp [List.find?_cons,e] at h
    subst h
    subst e
    simp
  ·have e':(y.1 == n)=false:=by simp [e]
   have h':getB r n=some b:=by
    unfold getB at h ⊢
    simpa [List.find?_cons,e'] using h
   obtain ⟨i,h1,h2⟩:=posB_some h'
   refine ⟨i+1,?_,by simpa using h2⟩
   unfold posB at h1 ⊢
   rw [List.findIdx?_cons]
   simp only [e',Bool.false_eq_true,if_false]
   cases hf:r.findIdx? (fun p=>p.1 == n) with
   | none=>rw [hf] at h1;simp at h1
   | some j=>rw [hf] at h1;simp at h1 ⊢;omega
theorem flatB_up:∀ (l:BM) (i:Nat) (x:Int × Br) (u:Bool),l[i]?=some x→(flatB l).set (i*3+2) (.bool u)=flatB (l.set i (x.1,⟨x.2.life,u⟩))
 | [],i,x,u,h=>by simp at h
 | y :: r,0,x,u,h=>by simp at h;subst h;simp [flatB]
 | y :: r,i+1,x,u,h=>by
  have ih:=flatB_up r i x u (by simpa using h)
  simp only [flatB,List.set_cons_succ]
  rw [List.set_append_right _ _ (by simp;omega),← ih]
  congr 2
  simp
  omega
theorem flatB_life:∀ (l:BM) (i:Nat) (x:Int × Br) (n:Int),l[i]?=some x→(flatB l).set (i*3+1) (.int .i64 n)=flatB (l.set i (x.1,⟨n,x.2.up⟩))
 | [],i,x,u,h=>by simp at h
 | y :: r,0,x,u,h=>by simp at h;subst h;simp [flatB]
 | y :: r,i+1,x,u,h=>by
  have ih:=flatB_life r i x u (by simpa using h)
  simp only [flatB,List.set_cons_succ]
  rw [List.set_append_right _ _ (by simp;omega),← ih]
  congr 2
  simp
  omega
theorem row_cell {w:World} {T:TypeId} {m g n c len:Nat} {vs:List Value} (h:w.ownsRow 0 T m (.slice (some ⟨g,0,none⟩) n c) len vs) (j:Nat) (y:Value):(w.setCell ⟨g,j,none⟩ y).ownsRow 0 T m (.slice (some ⟨g,0,none⟩) n c) len (vs.set j y):=by
 obtain ⟨h1,⟨e,h0⟩ | ⟨g',cap',cur,e,hB,hg,hn,hc,hs,ht⟩⟩:=h
 ·cases e
 ·cases e
  refine ⟨by simpa using h1,.inr ⟨g,c,cur.setIfInBounds j y,rfl,hB,set_box hg,hn,hc,by simpa using hs,?_⟩⟩
  rw [← ht]
  simp only [Array.toList_setIfInBounds]
  rw [List.take_set]
section
variable {w w3 N:World} {L X:Nat→Prop} {q:Nat} {vb vt vp ve v2:Value} {ps:List (Value × Pt)} {I:Im}
theorem DC.swapB (h:DC w L q vb vt vp ve ps I) {l2:BM} (hs:w.heap.size≤w3.heap.size) (hoth:∀ k,k<w.heap.size→k≠q→vb.ownBlock≠some k→w3.heap[k]?=w.heap[k]?)
  (hq:w3.heap[q]?=some (.cells #[.int .i64 I.applied,v2,vt,vp,ve] 32)) (hrow:w3.ownsRow 0 72 3 v2 l2.length (flatB l2)) (hnew:∀ k,v2.ownBlock=some k→vb.ownBlock=some k∨w.heap.size≤k) (hok:ImOk { I with brs:=l2 }):DC w3 L q v2 vt vp ve ps { I with brs:=l2 }:=by
 refine ⟨hq,hrow,row_kept h.tops (fun k hk=>hoth k (row_lt h.tops hk) (fun e=>h.ne_q.2.1 (by rw [← e];exact hk)) (h.ne_t hk).1),row_kept h.parts (fun k hk=>hoth k (row_lt h.parts hk) (fun e=>h.ne_q.2.2.1 (by rw [← e];exact hk)) (h.ne_p hk).1),row_kept h.eps (fun k hk=>hoth k (row_lt h.eps hk) (fun e=>h.ne_q.2.2.2 (by rw [← e];exact hk)) (h.ne_e hk).1),fun x hx=>?_,h.abs,fun k hk=>⟨Nat.lt_of_lt_of_le (h.lists k hk).1 hs,?_⟩,hok⟩
 ·obtain ⟨h1,h2⟩:=h.each x hx
  exact ⟨h1.kept h2 (fun k hk=>hoth k (h.lists k hk).1 (fun e=>(h.lists k hk).2 (.inl e)) (fun e=>(h.lists k hk).2 (.inr (.inl e)))) hs,h2⟩
 ·rintro (e | e | e | e | e)
  ·exact (h.lists k hk).2 (.inl e)
  ·rcases hnew k e with e | e
   ·exact (h.lists k hk).2 (.inr (.inl e))
   ·have:=(h.lists k hk).1;omega
  ·exact (h.lists k hk).2 (.inr (.inr (.inl e)))
  ·exact (h.lists k hk).2 (.inr (.inr (.inr (.inl e))))
  ·exact (h.lists k hk).2 (.inr (.inr (.inr (.inr e))))
theorem DC.turnB {g n c:Nat} (h:DC w L q (.slice (some ⟨g,0,none⟩) n c) vt vp ve ps I) (j:Nat) (y:Value) {l2:BM} (hf:(flatB I.brs).set j y=flatB l2) (hl:l2.length=I.brs.length) (hok:ImOk { I with brs:=l2 }):DC (w.setCell ⟨g,j,none⟩ y) L q (.slice (some ⟨g,0,none⟩) n c) vt vp ve ps { I with brs:=l2 }:=by
 have hgq:q≠g:=fun e=>h.ne_q.1 (by rw [e];rfl)
 have hr:=row_cell h.brs j y
 rw [hf,← hl] at hr
 exact h.swapB (by simp) (fun k hk hkq hke=>Below.heap_setCell _ _ _ _ (fun e=>hke (by rw [e];rfl))) ((Below.heap_setCell _ _ _ _ hgq).trans h.cells) hr (fun k hk=>.inl hk) hok
theorem DC.up {g n c:Nat} (h:DC w L q (.slice (some ⟨g,0,none⟩) n c) vt vp ve ps I) {i:Nat} {id:Int} {b:Br} (hx:I.brs[i]?=some (id,b)) (u:Bool):DC (w.setCell ⟨g,i*3+2,none⟩ (.bool u)) L q (.slice (some ⟨g,0,none⟩) n c) vt vp ve ps { I with brs:=putB I.brs id ⟨b.life,u⟩ }:=by
 have hb:=h.ok.brs _ (List.mem_of_getElem? hx)
 have e:=putB_set (b:=⟨b.life,u⟩) I.brs i h.ok.keys hx
 exact h.turnB _ _ (by rw [e];exact flatB_up I.brs i (id,b) u hx) (by rw [e];simp) (h.ok.put hb.1 hb.2)
theorem DC.life {g n c:Nat} (h:DC w L q (.slice (some ⟨g,0,none⟩) n c) vt vp ve ps I) {i:Nat} {id:Int} {b:Br} (hx:I.brs[i]?=some (id,b)) (m:Int) (hm:1≤m∧m≤1000000000):DC (w.setCell ⟨g,i*3+1,none⟩ (.int .i64 m)) L q (.slice (some ⟨g,0,none⟩) n c) vt vp ve ps { I with brs:=putB I.brs id ⟨m,b.up⟩ }:=by
 have hb:=h.ok.brs _ (List.mem_of_getElem? hx)
 have e:=putB_set (b:=⟨m,b.up⟩) I.brs i h.ok.keys hx
 exact h.turnB _ _ (by rw [e];exact flatB_life I.brs i (id,b) m hx) (by rw [e];simp) (h.ok.put hb.1 hm)
theorem DC.take {g n cap:Nat} (h:DC w L q vb vt (.slice (some ⟨g,0,none⟩) n cap) ve ps I) {v:Value} {p:Pt} (hv:PartM w v p) (hX:InP X v p) (hXo:∀ k,X k→k<w.heap.size∧¬ OwnD q vb vt (.slice (some ⟨g,0,none⟩) n cap) ve k)
  (hp:RightP p) (i:Nat) (hi:i<ps.length) (hid:p.id=(i:Int)+1) (hN:PutsR w N g (i*9) (pc v)):DC N (fun k=>L k∨X k) q vb vt (.slice (some ⟨g,0,none⟩) n cap) ve (ps.set i (v,p)) { I with parts:=I.parts.set i p }:=by
 have hg:OwnD q vb vt (.slice (some ⟨g,0,none⟩) n cap) ve g:=.inr (.inr (.inr (.inl rfl)))
 have hgq:q≠g:=fun e=>h.ne_q.2.2.1 (by rw [e];rfl)
 have hs:w.heap.size≤N.heap.size:=by rw [hN.size];exact Nat.le_refl _
 have hne:=h.ne_p (k:=g) rfl
 refine ⟨(hN.other q hgq).trans h.cells,row_kept h.brs (fun k hk=>hN.other k (fun e=>by subst e;exact hne.1 hk)),row_kept h.tops (fun k hk=>hN.other k (fun e=>by subst e;exact hne.2.1 hk)),row_set h.parts (fun x hx=>pc_part (h.each x hx).1) i hi (pc_part hv) hN,row_kept h.eps (fun k hk=>hN.other k (fun e=>by subst e;exact hne.2.2 hk)),fun x hx=>?_,?_,fun k hk=>?_,h.ok.part hp i hid⟩
 ·rcases List.mem_or_eq_of_mem_set hx with hx | rfl
  ·obtain ⟨h1,h2⟩:=h.each x hx
   exact ⟨h1.kept h2 (fun k hk=>hN.other k (fun e=>by subst e;exact (h.lists k hk).2 hg)) hs,h2.mono fun k hk=>.inl hk⟩
  ·exact ⟨hv.kept hX (fun k hk=>hN.other k (fun e=>by subst e;exact (hXo k hk).2 hg)) hs,hX.mono fun k hk=>.inr hk⟩
 ·rw [h.abs]
  simp [List.map_set]
 ·rw [hN.size]
  rcases hk with hk | hk
  ·exact h.lists k hk
  ·exact hXo k hk
end
structure LoopD (w wr:World) (L:Nat→Prop) (q:Nat) (vb vt vp ve:Value) (I:Im) (f:Pt→Pt × Int) (k:Nat):Prop where
 im:∃ L' ps',DC wr L' q vb vt vp ve ps' { I with parts:=stepK f k I.parts }∧∀ j,L' j→L j∨w.heap.size≤j
 keeps:Keeps (OwnD q vb vt vp ve) w wr
section
variable {w wr:World} {L:Nat→Prop} {q:Nat} {vb vt vp ve:Value} {I:Im} {f:Pt→Pt × Int} {k:Nat}
theorem LoopD.start {ps:List (Value × Pt)} (h:DC w L q vb vt vp ve ps I):LoopD w w L q vb vt vp ve I f 0 :=
 ⟨⟨L,ps,by rw [stepK_zero];exact h,fun j hj=>.inl hj⟩,Keeps.refl _ _⟩
theorem LoopD.under {w1:World} (h:LoopD w wr L q vb vt vp ve I f k) (hb:Below wr.heap.size wr w1):LoopD w w1 L q vb vt vp ve I f k:=by
 obtain ⟨⟨L',ps',h1,h2⟩,h3⟩:=h
 exact ⟨⟨L',ps',h1.under hb,h2⟩,h3.trans (Keeps.of_below (S:=fun _=>False) hb) (fun x hx=>hx.elim)⟩
theorem LoopD.c3 (h:LoopD w wr L q vb vt vp ve I f k):wr.cell? ⟨q,3,none⟩=some vp:=by
 obtain ⟨⟨L',ps',h1,h2⟩,h3⟩:=h;exact h1.c3
theorem LoopD.ok (h:LoopD w wr L q vb vt vp ve I f k):ImOk { I with parts:=stepK f k I.parts }:=by
 obtain ⟨⟨L',ps',h1,h2⟩,h3⟩:=h;exact h1.ok
theorem LoopD.up (h:LoopD w wr L q vb vt vp ve I f k):Calls Tryz.prog 38 #[.pointer (some ⟨q,0,none⟩)] wr fun e w'=>∃ v',e=.returned v'∧IL w' v' (upL I.brs)∧In (fun b=>wr.heap.size≤b) v' (upL I.brs)∧Below wr.heap.size wr w':=by
 obtain ⟨⟨L',ps',h1,h2⟩,h3⟩:=h;have:=rup_any h1;exact this
theorem LoopD.at_ {g n cap:Nat} (h:LoopD w wr L q vb vt (.slice (some ⟨g,0,none⟩) n cap) ve I f k) (hk:k<I.parts.length) :
  ∃ v,PartM wr v I.parts[k]∧∀ t,t<9→∀ u,(pc v)[t]?=some u→wr.cell? ⟨g,k*9+t,none⟩=some u:=by
 obtain ⟨⟨L',ps',h1,h2⟩,h3⟩:=h
 have e:=stepK_at f I.parts k hk
 have hk2:k<(stepK f k I.parts).length:=by rw [stepK_len];exact hk
 obtain ⟨v,i1,i2,i3⟩:=h1.pt k hk2
 have e2:(stepK f k I.parts)[k]=I.parts[k]:=by rw [List.getElem?_eq_getElem hk2] at e;exact Option.some.inj e
 simp only [e2] at i1
 exact ⟨v,i1,i3⟩
theorem LoopD.no (h:LoopD w wr L q vb vt vp ve I f k) (hk:k<I.parts.length) {W:World} (hb:Below wr.heap.size wr W) (h0:(f I.parts[k]).2≠0):LoopD w W L q vb vt vp ve I f (k+1):=by
 obtain ⟨i1,i2⟩:=h.under hb
 refine ⟨?_,i2⟩
 rw [stepK_no f I.parts k hk h0]
 exact i1
theorem LoopD.yes {g n cap:Nat} (h:LoopD w wr L q vb vt (.slice (some ⟨g,0,none⟩) n cap) ve I f k) (hk:k<I.parts.length) {W N:World} (hb:Below wr.heap.size wr W) {v:Value} (h0:(f I.parts[k]).2=0) (hv:PartM W v (f I.parts[k]).1) (hX:InP (fun j=>wr.heap.size≤j) v (f I.parts[k]).1) (hR:RightP (f I.parts[k]).1) (hi:(f I.parts[k]).1.id=(k:Int)+1) (hN:PutsR W N g (k*9) (pc v)) :
  LoopD w N L q vb vt (.slice (some ⟨g,0,none⟩) n cap) ve I f (k+1):=by
 have hU:=h.under hb
 obtain ⟨⟨L',ps',h1,h2⟩,h3⟩:=hU
 have hlen:k<ps'.length:=by
  have:=h1.plen
  simp only [stepK_len] at this
  omega
 obtain ⟨⟨L0,ps0,h10,h20⟩,h30⟩:=h
 have i1:=h1.take (X:=fun j=>wr.heap.size≤j∧j<W.heap.size) hv (hX.and hv.old) (fun j hj=>⟨hj.2,fun ho=>by have:=h10.lt ho;omega⟩) hR k hlen hi hN
 refine ⟨⟨fun j=>L' j∨(wr.heap.size≤j∧j<W.heap.size),ps'.set k (v,(f I.parts[k]).1),?_,fun j hj=>?_⟩,h3.trans (hN.keeps (S:=OwnD q vb vt (.slice (some ⟨g,0,none⟩) n cap) ve) (.inr (.inr (.inr (.inl rfl))))) (fun x hx=>.inl hx)⟩
 ·rw [stepK_succ f I.parts k hk,stepP_yes h0]
  exact i1
 ·rcases hj with hj | hj
  ·exact h2 j hj
  ·exact .inr (Nat.le_trans h30.size hj.1)
end
def DOut (L:Nat→Prop) (w w':World) (q:Nat) (vb vt vp ve:Value) (J:Im):Prop:=∃ L' ps',DC w' L' q vb vt vp ve ps' J∧(∀ j,L' j→L j∨w.heap.size≤j)∧Keeps (OwnD q vb vt vp ve) w w'
theorem sameList_any {w:World} {v u:Value} {l m:List Int} (h:IL w v l) (hm:IL w u m):Calls Tryz.prog 31 #[v,u] w fun e w'=>e=.returned (.bool (decide (l=m)))∧Below w.heap.size w w':=by
 obtain ⟨⟨a,cap,rfl,hcap,hcm,hnn,hat⟩,hok,hfew⟩:=h
 obtain ⟨⟨ua,ucap,rfl,_,_,_,uat⟩,uok,ufew⟩:=hm
 have HA:=hid hat
 have HU:=hid uat
 have HOK:=hid hok
 have HUK:=hid uok
 clear hat uat hok uok hnn hcap hcm
 by_cases hl:l.length=m.length
 ·have HL:=hid hl
  have hmlen:¬ ((l.length:Int)≠(m.length:Int)):=by omega
  rw [← hl]
  clear hl
  go_enter Tryz.func31,Tryz.ntmps31
  go_wp2_with fail
  go_loopg [5] l.length (fun kx s5 wr=>∃ k:Nat,k≤l.length∧l.length - k≤kx∧s5=.int .i64 (k:Int)∧Hid (l.take k=m.take k∧Below w.heap.size w wr))
  case atStart=>exact ⟨0,Nat.zero_le _,by omega,rfl,by simp,Below.refl _ _⟩
  case round =>
   obtain ⟨k,hk,hkx,rfl,HR⟩:=hrel
   by_cases hlt:k<l.length
   ·have hltm:k<m.length:=by have:=HL.out;omega
    obtain ⟨b,off,rfl,hb,hc⟩:=HA.out (by intro e;rw [e] at hlt;simp at hlt)
    obtain ⟨b2,off2,rfl,hb2,hc2⟩:=HU.out (by intro e;rw [e] at hltm;simp at hltm)
    have hck:=kept_cell HR.out.2 (hc k hlt)
    have hck2:=kept_cell HR.out.2 (hc2 k hltm)
    have hok:=HOK.out l[k] (by simp)
    have huk:=HUK.out m[k] (by simp)
    have HT:=hid (take_eq_snoc HR.out.1 hlt hltm)
    have HE:Hid (l=m→l[k]=m[k]):=fun e=>by subst e;rfl
    have hlt':(k:Int)<(l.length:Int):=by omega
    have hk0:(0:Int)≤(k:Int):=by omega
    generalize l[k]=y at *
    generalize m[k]=z at *
    clear hc hc2
    by_cases he:y=z
    ·have HTT:=hid (HT.out he)
     subst he
     go_wp2_with fail
     go_quiet (fail)
     go_wp2_with fail
     go_roundg (l.length - (k+1))
     case measure=>omega
     case rel=>exact ⟨k+1,by omega,Nat.le_refl _,by go_num,HTT.out,by first | exact HR.out.2 | exact HR.out.2.drew | exact below_drewN HR.out.2 _⟩
    ·have HF:Hid (decide (l=m)=false):=by show _=_;simp;intro e;exact he (HE.out e)
     go_wp2_with fail
     go_quiet (fail)
     go_wp2_with fail
     go_ret
     exact ⟨by rw [HF.out];rfl,by first | exact HR.out.2 | exact HR.out.2.drew | exact below_drewN HR.out.2 _⟩
   ·have hlt':¬ (k:Int)<(l.length:Int):=by omega
    go_wp2_with fail
    go_ret
    have hr:=HR.out
    rw [List.take_of_length_le (by omega),List.take_of_length_le (by have:=HL.out;omega)] at hr
    exact ⟨by rw [hr.1];simp,hr.2⟩
 ·have HF:Hid (decide (l=m)=false):=by show _=_;simp;intro e;exact hl (by rw [e])
  have hmlen:((l.length:Int)≠(m.length:Int)):=by omega
  go_enter Tryz.func31,Tryz.ntmps31
  go_wp2_with fail
  go_ret
  exact ⟨by rw [HF.out];rfl,Below.refl _ _⟩
def pickI (c n:Int):Int:=if c<0 then (-(c+1)) % n else c % n
theorem neg_tmod (c n:Int):(-(c+1)).tmod n=-((c+1).tmod n):=by rw [Int.neg_tmod]
theorem pick_any (c n:Int) (w:World) (hc:I64 c) (hn:1≤n) (hn2:n≤1000000):Calls Tryz.prog 15 #[.int .i64 c,.int .i64 n] w fun e w'=>e=.returned (.int .i64 (pickI c n))∧w=w':=by
 unfold I64 at hc
 obtain ⟨hc1,hc2⟩:=hc
 by_cases h0:c<0
 ·obtain ⟨d,hd⟩:∃ d,-(c+1)=d:=⟨_,rfl⟩
  have HF:Hid (pickI c n=d % n):=by show _=_;unfold pickI;rw [if_pos h0,hd]
  have hd0:0≤d:=by omega
  have hd1:d≤9223372036854775807:=by omega
  have hnz:n≠0:=by omega
  go_enter Tryz.func15,Tryz.ntmps15
  go_wp2
  go_ret
  refine ⟨?_,rfl⟩
  rw [HF.out]
  refine ret_int ?_
  first | rfl | (rw [← neg_tmod,Int.tmod_eq_emod_of_nonneg (by omega)]) | (rw [Int.tmod_eq_emod_of_nonneg (by omega)])
 ·have HF:Hid (pickI c n=c % n):=by show _=_;unfold pickI;rw [if_neg h0]
  have hnz:n≠0:=by omega
  have h0':0≤c:=by omega
  go_enter Tryz.func15,Tryz.ntmps15
  go_wp2
  go_ret
  refine ⟨?_,rfl⟩
  rw [HF.out]
  refine ret_int ?_
  first | rfl | (rw [Int.tmod_eq_emod_of_nonneg (by omega)])
theorem il_lit {W:World} {g:Nat} (l:List Int) (hg:W.heap[g]?=some (.cells (vals l).toArray 3)) (hok:∀ x∈l,I64 x) (hf:l.length≤1000):IL W (.slice (some ⟨g,0,none⟩) l.length l.length) l:=by
 refine ⟨⟨some ⟨g,0,none⟩,l.length,rfl,Nat.le_refl _,by unfold maxLen;omega,(fun h=>by cases h),fun _=>⟨g,0,rfl,?_,fun i hi=>?_⟩⟩,hok,by omega⟩
 ·rcases Nat.lt_or_ge g W.heap.size with h1 | h1
  ·exact h1
  ·rw [Array.getElem?_eq_none h1] at hg;cases hg
 ·exact cell_blk hg _ _ (by simp [vals,hi])
theorem len_sub:∀ (l m:List Int),l.Nodup→(∀ x∈l,x∈m)→l.length≤m.length
 | [],m,_,_=>Nat.zero_le _
 | x :: r,m,hd,hs=>by
  have hx:x∈m:=hs x (by simp)
  have hd':=List.nodup_cons.1 hd
  have:=len_sub r (m.erase x) hd'.2 fun y hy=>(List.mem_erase_of_ne (fun e:y=x=>hd'.1 (by rw [← e];exact hy))).2 (hs y (by simp [hy]))
  have hl:=List.length_erase_of_mem hx
  have hp:0<m.length:=List.length_pos_of_mem hx
  simp only [List.length_cons]
  omega
theorem blk_under {W W':World} {q:Nat} {O:Obj} (h:W.heap[q]?=some O) (hb:Below W.heap.size W W'):W'.heap[q]?=some O:=(hb.block q (by
 rcases Nat.lt_or_ge q W.heap.size with h1 | h1
 ·exact h1
 ·rw [Array.getElem?_eq_none h1] at h;cases h)).trans h
theorem rhas_any {w:World} {v:Value} {l:List Int} (h:IL w v l) (x:Int) (hx:I64 x):Calls Tryz.prog 83 #[v,.int .i64 x] w fun e w'=>e=.returned (.bool (hasB l x))∧w=w':=by
 obtain ⟨⟨a,cap,rfl,hcap,hcm,hnn,hat⟩,hok,hfew⟩:=h
 have HA:=hid hat
 have HOK:=hid hok
 have hlen:l.length≤9223372036854775807:=by omega
 clear hat hok hnn hcap hcm
 go_enter Tryz.func83,Tryz.ntmps83
 go_wp2_with fail
 go_loopg [5] l.length (fun kx s5 wr=>∃ k:Nat,k≤l.length∧l.length - k≤kx∧s5=.int .i64 (k:Int)∧Hid (x ∉ l.take k)∧wr=w)
 case atStart=>exact ⟨0,Nat.zero_le _,by omega,rfl,by show _ ∉ _;simp,rfl⟩
 case round =>
  obtain ⟨k,hk,hkx,rfl,HM,rfl⟩:=hrel
  by_cases hlt:k<l.length
  ·obtain ⟨b,off,rfl,hb,hc⟩:=HA.out (by intro e;rw [e] at hlt;simp at hlt)
   have hck:=hc k hlt
   have hok:=HOK.out l[k] (by simp)
   unfold I64 at hok
   have HT:Hid (l.take (k+1)=l.take k++[l[k]]):=List.take_succ_eq_append_getElem hlt
   have HG:Hid (l[k]∈l):=by show _∈_;simp
   have hlt':(k:Int)<(l.length:Int):=by omega
   clear hc
   by_cases he:x=l[k]
   ·have HE:=hid he
    clear he
    rw [← HE.out] at hck
    have HF:Hid (hasB l x=true):=by show _=_;rw [hasB_iff,HE.out];exact HG.out
    go_wp2_with fail
    go_ret
    exact ⟨by rw [HF.out];rfl,rfl⟩
   ·generalize l[k]=y at *
    have he':(y == x)=false:=by simp;omega
    go_wp2_with fail
    go_roundg (l.length - (k+1))
    case measure=>omega
    case rel=>exact ⟨k+1,by omega,Nat.le_refl _,by go_num,by show _ ∉ _;rw [HT.out];simp;exact ⟨HM.out,he⟩,rfl⟩
  ·have hlt':¬ (k:Int)<(l.length:Int):=by omega
   go_wp2_with fail
   go_ret
   have HN:=HM.out
   rw [List.take_of_length_le (by omega)] at HN
   exact ⟨ret_bool (by rw [eq_comm,Bool.eq_false_iff];intro e;exact HN (hasB_iff.1 e)),rfl⟩
theorem rsame_any {w:World} {v u:Value} {l m:List Int} (h:IL w v l) (hm:IL w u m):Calls Tryz.prog 85 #[v,u] w fun e w'=>e=.returned (.bool (decide (l=m)))∧Below w.heap.size w w':=by
 obtain ⟨⟨a,cap,rfl,hcap,hcm,hnn,hat⟩,hok,hfew⟩:=h
 obtain ⟨⟨ua,ucap,rfl,_,_,_,uat⟩,uok,ufew⟩:=hm
 have HA:=hid hat
 have HU:=hid uat
 have HOK:=hid hok
 have HUK:=hid uok
 clear hat uat hok uok hnn hcap hcm
 by_cases hl:l.length=m.length
 ·have HL:=hid hl
  have hmlen:¬ ((l.length:Int)≠(m.length:Int)):=by omega
  rw [← hl]
  clear hl
  go_enter Tryz.func85,Tryz.ntmps85
  go_wp2_with fail
  go_loopg [5] l.length (fun kx s5 wr=>∃ k:Nat,k≤l.length∧l.length - k≤kx∧s5=.int .i64 (k:Int)∧Hid (l.take k=m.take k∧Below w.heap.size w wr))
  case atStart=>exact ⟨0,Nat.zero_le _,by omega,rfl,by simp,Below.refl _ _⟩
  case round =>
   obtain ⟨k,hk,hkx,rfl,HR⟩:=hrel
   by_cases hlt:k<l.length
   ·have hltm:k<m.length:=by have:=HL.out;omega
    obtain ⟨b,off,rfl,hb,hc⟩:=HA.out (by intro e;rw [e] at hlt;simp at hlt)
    obtain ⟨b2,off2,rfl,hb2,hc2⟩:=HU.out (by intro e;rw [e] at hltm;simp at hltm)
    have hck:=kept_cell HR.out.2 (hc k hlt)
    have hck2:=kept_cell HR.out.2 (hc2 k hltm)
    have hok:=HOK.out l[k] (by simp)
    have huk:=HUK.out m[k] (by simp)
    have HT:=hid (take_eq_snoc HR.out.1 hlt hltm)
    have HE:Hid (l=m→l[k]=m[k]):=fun e=>by subst e;rfl
    have hlt':(k:Int)<(l.length:Int):=by omega
    have hk0:(0:Int)≤(k:Int):=by omega
    generalize l[k]=y at *
    generalize m[k]=z at *
    clear hc hc2
    by_cases he:y=z
    ·have HTT:=hid (HT.out he)
     subst he
     go_wp2_with fail
     go_quiet (fail)
     go_wp2_with fail
     go_roundg (l.length - (k+1))
     case measure=>omega
     case rel=>exact ⟨k+1,by omega,Nat.le_refl _,by go_num,HTT.out,by first | exact HR.out.2 | exact HR.out.2.drew | exact below_drewN HR.out.2 _⟩
    ·have HF:Hid (decide (l=m)=false):=by show _=_;simp;intro e;exact he (HE.out e)
     go_wp2_with fail
     go_quiet (fail)
     go_wp2_with fail
     go_ret
     exact ⟨by rw [HF.out];rfl,by first | exact HR.out.2 | exact HR.out.2.drew | exact below_drewN HR.out.2 _⟩
   ·have hlt':¬ (k:Int)<(l.length:Int):=by omega
    go_wp2_with fail
    go_ret
    have hr:=HR.out
    rw [List.take_of_length_le (by omega),List.take_of_length_le (by have:=HL.out;omega)] at hr
    exact ⟨by rw [hr.1];simp,hr.2⟩
 ·have HF:Hid (decide (l=m)=false):=by show _=_;simp;intro e;exact hl (by rw [e])
  have hmlen:((l.length:Int)≠(m.length:Int)):=by omega
  go_enter Tryz.func85,Tryz.ntmps85
  go_wp2_with fail
  go_ret
  exact ⟨by rw [HF.out];rfl,Below.refl _ _⟩
theorem rinL_any {w:World} {v u:Value} {l m:List Int} (h:IL w v l) (hm:IL w u m):Calls Tryz.prog 131 #[v,u] w fun e w'=>∃ v',e=.returned v'∧IL w' v' (inL l m)∧In (fun b=>w.heap.size≤b) v' (inL l m)∧Below w.heap.size w w':=by
 have HM:=hid hm
 obtain ⟨i0,hi0,hz0,hz1,hz2⟩:=info3
 obtain ⟨⟨a,cap,rfl,hcap,hcm,hnn,hat⟩,hok,hfew⟩:=h
 obtain ⟨⟨ua,ucap,rfl,_⟩,_⟩:=hm
 have HA:=hid hat
 have HOK:=hid hok
 have hlen:l.length≤maxLen:=by omega
 have hlen2:l.length≤9223372036854775807:=by unfold maxLen at hlen;omega
 clear hat hok hnn hcap hcm
 go_enter Tryz.func131,Tryz.ntmps131
 go_wp2_with fail
 go_loopg [5,6] l.length (fun kx s5 s6 wr=>∃ k:Nat,k≤l.length∧l.length - k≤kx∧s6=.int .i64 (k:Int)∧Hid (wr.ownsRow w.heap.size 3 1 s5 (inL (l.take k) m).length (vals (inL (l.take k) m))∧Below w.heap.size w wr)∧(∃ a n c,s5=.slice a n c))
 case atStart=>exact ⟨0,Nat.zero_le _,by omega,rfl,⟨World.ownsRow_nil _ _ _ _,Below.refl _ _⟩,⟨_,_,_,rfl⟩⟩
 case round =>
  obtain ⟨k,hk,hkx,rfl,HR,⟨a1,n1,c1,rfl⟩⟩:=hrel
  by_cases hlt:k<l.length
  ·obtain ⟨b,off,rfl,hb,hc⟩:=HA.out (by intro e;rw [e] at hlt;simp at hlt)
   have hck:=kept_cell HR.out.2 (hc k hlt)
   have hok:=HOK.out l[k] (by simp)
   have HS:=hid (inL_snoc l m k hlt)
   have H39:=hid (rhas_any (HM.out.under HR.out.2) l[k] hok)
   have hlt':(k:Int)<(l.length:Int):=by omega
   have hn1:(inL (l.take k) m).length≤k:=by have:=len_inL (l.take k) m;rw [List.length_take] at this;omega
   generalize l[k]=y at *
   clear hc
   cases hB:hasB m y with
   | true =>
    rw [hB] at H39 HS
    rw [if_pos rfl] at HS
    go_wp2_with fail
    refine H39.out.mono ?_
    rintro e w1 ⟨rfl,rfl⟩
    have HX:Hid ((wr.alloc (.cells #[.int .i64 y] 3)).ownsRow w.heap.size 3 1 (.slice a1 n1 c1) (inL (l.take k) m).length (vals (inL (l.take k) m))):=HR.out.1.alloc _
    have HN1:Hid (∀ j u,([.int .i64 y]:List Value)[j]?=some u→(wr.alloc (.cells #[.int .i64 y] 3)).cell? ((⟨wr.heap.size,0,none⟩:Addr).add j)=some u):=fun j u hu=>by
     cases j with
     | zero=>simp at hu;subst hu;rw [add_at];exact cell_blk (heap_alloc_new _ _) 0 _ rfl
     | succ j=>simp at hu
    have HO1:Hid (∀ u∈([.int .i64 y]:List Value),u.oneCell'=true):=fun u hu=>by simp at hu;subst hu;rfl
    have hbs:=HR.out.2.size
    go_wp2_with (at_builtin;go_loud (refine wpList_append_own_at _ rfl _ _ 23 rfl w.heap.size 3 i0 _ 1 8 Tryz.underlying23 hi0 hz0 hz1 hz2 rfl (by decide) _ (inL (l.take k) m).length _ rfl HX.out ⟨wr.heap.size,0,none⟩ 1 1 [.int .i64 y] rfl rfl HN1.out HO1.out (by omega) (by unfold maxLen at hlen;omega) (by simp;omega) ?_);intro v2 w2 hown2 hg2 _ hat2)
    have hsh:∃ a n c,v2=.slice a n c:=by
     rcases hown2.2 with ⟨e,_⟩ | ⟨g,cp,cur,e,_⟩
     ·exact ⟨_,_,_,e⟩
     ·exact ⟨_,_,_,e⟩
    obtain ⟨a2,n2,c2,rfl⟩:=hsh
    have HB2:Hid (Below w.heap.size w w2):=(HR.out.2.alloc hbs _).grown hg2 (by have:=(HR.out.2.alloc hbs (.cells #[.int .i64 y] 3)).size;exact this) (fun j hj=>(World.ownsRow.lt HX.out j hj).1)
    have HW2:=hid hown2
    clear hown2 hg2 hat2
    go_wp2_with fail
    go_roundg (l.length - (k+1))
    case measure=>omega
    case rel=>exact ⟨k+1,by omega,Nat.le_refl _,by go_num,⟨by rw [HS.out];simp only [List.length_append,List.length_cons,List.length_nil,Nat.zero_add,vals,List.map_append,List.map_cons,List.map_nil];exact HW2.out,HB2.out⟩,⟨_,_,_,rfl⟩⟩
   | false =>
    rw [hB] at H39 HS
    rw [if_neg (by simp),List.append_nil] at HS
    go_wp2_with fail
    refine H39.out.mono ?_
    rintro e w1 ⟨rfl,rfl⟩
    go_wp2_with fail
    go_roundg (l.length - (k+1))
    case measure=>omega
    case rel=>exact ⟨k+1,by omega,Nat.le_refl _,by go_num,(by rw [HS.out];exact HR.out),⟨_,_,_,rfl⟩⟩
  ·have hlt':¬ (k:Int)<(l.length:Int):=by omega
   go_wp2_with fail
   go_ret
   have hr:=HR.out
   rw [List.take_of_length_le (by omega)] at hr
   exact ⟨_,rfl,IL.of hr.1 (fun x hx=>HOK.out x (by unfold inL at hx;exact (List.mem_filter.1 hx).1)) (by have:=len_inL l m;omega),in_own hr.1,hr.2⟩
theorem routL_any {w:World} {v u:Value} {l m:List Int} (h:IL w v l) (hm:IL w u m):Calls Tryz.prog 130 #[v,u] w fun e w'=>∃ v',e=.returned v'∧IL w' v' (outL l m)∧In (fun b=>w.heap.size≤b) v' (outL l m)∧Below w.heap.size w w':=by
 have HM:=hid hm
 obtain ⟨i0,hi0,hz0,hz1,hz2⟩:=info3
 obtain ⟨⟨a,cap,rfl,hcap,hcm,hnn,hat⟩,hok,hfew⟩:=h
 obtain ⟨⟨ua,ucap,rfl,_⟩,_⟩:=hm
 have HA:=hid hat
 have HOK:=hid hok
 have hlen:l.length≤maxLen:=by omega
 have hlen2:l.length≤9223372036854775807:=by unfold maxLen at hlen;omega
 clear hat hok hnn hcap hcm
 go_enter Tryz.func130,Tryz.ntmps130
 go_wp2_with fail
 go_loopg [5,6] l.length (fun kx s5 s6 wr=>∃ k:Nat,k≤l.length∧l.length - k≤kx∧s6=.int .i64 (k:Int)∧Hid (wr.ownsRow w.heap.size 3 1 s5 (outL (l.take k) m).length (vals (outL (l.take k) m))∧Below w.heap.size w wr)∧(∃ a n c,s5=.slice a n c))
 case atStart=>exact ⟨0,Nat.zero_le _,by omega,rfl,⟨World.ownsRow_nil _ _ _ _,Below.refl _ _⟩,⟨_,_,_,rfl⟩⟩
 case round =>
  obtain ⟨k,hk,hkx,rfl,HR,⟨a1,n1,c1,rfl⟩⟩:=hrel
  by_cases hlt:k<l.length
  ·obtain ⟨b,off,rfl,hb,hc⟩:=HA.out (by intro e;rw [e] at hlt;simp at hlt)
   have hck:=kept_cell HR.out.2 (hc k hlt)
   have hok:=HOK.out l[k] (by simp)
   have HS:=hid (outL_snoc l m k hlt)
   have H50:=hid (rhas_any (HM.out.under HR.out.2) l[k] hok)
   have hlt':(k:Int)<(l.length:Int):=by omega
   have hn1:(outL (l.take k) m).length≤k:=by have:=len_outL (l.take k) m;rw [List.length_take] at this;omega
   generalize l[k]=y at *
   clear hc
   cases hB0:hasB m y with
   | false =>
    have hB:lackB m y=true:=by simp [lackB,hB0]
    rw [hB0] at H50
    rw [hB] at HS
    rw [if_pos rfl] at HS
    go_wp2_with fail
    refine H50.out.mono ?_
    rintro e w1 ⟨rfl,rfl⟩
    have HX:Hid ((wr.alloc (.cells #[.int .i64 y] 3)).ownsRow w.heap.size 3 1 (.slice a1 n1 c1) (outL (l.take k) m).length (vals (outL (l.take k) m))):=HR.out.1.alloc _
    have HN1:Hid (∀ j u,([.int .i64 y]:List Value)[j]?=some u→(wr.alloc (.cells #[.int .i64 y] 3)).cell? ((⟨wr.heap.size,0,none⟩:Addr).add j)=some u):=fun j u hu=>by
     cases j with
     | zero=>simp at hu;subst hu;rw [add_at];exact cell_blk (heap_alloc_new _ _) 0 _ rfl
     | succ j=>simp at hu
    have HO1:Hid (∀ u∈([.int .i64 y]:List Value),u.oneCell'=true):=fun u hu=>by simp at hu;subst hu;rfl
    have hbs:=HR.out.2.size
    go_wp2_with (at_builtin;go_loud (refine wpList_append_own_at _ rfl _ _ 23 rfl w.heap.size 3 i0 _ 1 8 Tryz.underlying23 hi0 hz0 hz1 hz2 rfl (by decide) _ (outL (l.take k) m).length _ rfl HX.out ⟨wr.heap.size,0,none⟩ 1 1 [.int .i64 y] rfl rfl HN1.out HO1.out (by omega) (by unfold maxLen at hlen;omega) (by simp;omega) ?_);intro v2 w2 hown2 hg2 _ hat2)
    have hsh:∃ a n c,v2=.slice a n c:=by
     rcases hown2.2 with ⟨e,_⟩ | ⟨g,cp,cur,e,_⟩
     ·exact ⟨_,_,_,e⟩
     ·exact ⟨_,_,_,e⟩
    obtain ⟨a2,n2,c2,rfl⟩:=hsh
    have HB2:Hid (Below w.heap.size w w2):=(HR.out.2.alloc hbs _).grown hg2 (by have:=(HR.out.2.alloc hbs (.cells #[.int .i64 y] 3)).size;exact this) (fun j hj=>(World.ownsRow.lt HX.out j hj).1)
    have HW2:=hid hown2
    clear hown2 hg2 hat2
    go_wp2_with fail
    go_roundg (l.length - (k+1))
    case measure=>omega
    case rel=>exact ⟨k+1,by omega,Nat.le_refl _,by go_num,⟨by rw [HS.out];simp only [List.length_append,List.length_cons,List.length_nil,Nat.zero_add,vals,List.map_append,List.map_cons,List.map_nil];exact HW2.out,HB2.out⟩,⟨_,_,_,rfl⟩⟩
   | true =>
    have hB:lackB m y=false:=by simp [lackB,hB0]
    rw [hB0] at H50
    rw [hB] at HS
    rw [if_neg (by simp),List.append_nil] at HS
    go_wp2_with fail
    refine H50.out.mono ?_
    rintro e w1 ⟨rfl,rfl⟩
    go_wp2_with fail
    go_roundg (l.length - (k+1))
    case measure=>omega
    case rel=>exact ⟨k+1,by omega,Nat.le_refl _,by go_num,(by rw [HS.out];exact HR.out),⟨_,_,_,rfl⟩⟩
  ·have hlt':¬ (k:Int)<(l.length:Int):=by omega
   go_wp2_with fail
   go_ret
   have hr:=HR.out
   rw [List.take_of_length_le (by omega)] at hr
   exact ⟨_,rfl,IL.of hr.1 (fun x hx=>HOK.out x (by unfold outL at hx;exact (List.mem_filter.1 hx).1)) (by have:=len_outL l m;omega),in_own hr.1,hr.2⟩
theorem out_len (l m:List Int):decide ((outL l m).length=0)=l.all (hasB m):=by
 rw [Bool.eq_iff_iff]
 simp only [decide_eq_true_eq,List.all_eq_true,hasB_iff]
 constructor
 ·intro h x hx
  have he:=List.eq_nil_of_length_eq_zero h
  exact Decidable.byContradiction fun hn=>by
   have:x∈outL l m:=mem_outL.2 ⟨hx,hn⟩
   rw [he] at this;cases this
 ·intro h
  cases hL:outL l m with
  | nil=>rfl
  | cons x r =>
   have hx:x∈outL l m:=by rw [hL];simp
   exact absurd (h x (mem_outL.1 hx).1) (mem_outL.1 hx).2
theorem rpart_any {w:World} {v u:Value} {l m:List Int} (h:IL w v l) (hm:IL w u m):Calls Tryz.prog 129 #[v,u] w fun e w'=>e=.returned (.bool (l.all (hasB m)))∧Below w.heap.size w w':=by
 have G:=hid (routL_any h hm)
 obtain ⟨a,c,rfl,_⟩:=h.shape
 obtain ⟨a2,c2,rfl,_⟩:=hm.shape
 rw [← out_len]
 generalize outL l m=T at *
 go_enter Tryz.func129,Tryz.ntmps129
 go_wp2_with fail
 refine G.out.mono ?_
 rintro e W1 ⟨v',rfl,h1,_,hb⟩
 obtain ⟨va,vc,rfl,_⟩:=h1.shape
 clear h1
 go_wp2_with fail
 go_ret
 refine ⟨ret_bool ?_,hb⟩
 rw [Bool.eq_iff_iff];simp
theorem rcopied_any {w:World} {v:Value} {l:List Int} (h:IL w v l):Calls Tryz.prog 132 #[v] w fun e w'=>∃ v',e=.returned v'∧IL w' v' l∧In (fun b=>w.heap.size≤b) v' l∧Below w.heap.size w w':=by
 obtain ⟨i0,hi0,hz0,hz1,hz2⟩:=info3
 have HI:=hid h
 obtain ⟨⟨a,cap,rfl,hcap,hcm,hnn,hat⟩,hok,hfew⟩:=h
 have HOK:=hid hok
 have HROW:Hid ((w.alloc (.cells #[] 3)).ownsRow w.heap.size 3 1 (.slice (some ⟨w.heap.size,0,none⟩) 0 0) 0 []):=⟨rfl,.inr ⟨w.heap.size,0,#[],rfl,Nat.le_refl _,heap_alloc_new _ _,Nat.le_refl _,Nat.zero_le _,rfl,rfl⟩⟩
 have hb0:Below w.heap.size w (w.alloc (.cells #[] 3)):=(Below.refl _ _).alloc (Nat.le_refl _) _
 have HB0:=hid hb0
 cases a with
 | none =>
  have h0:=hnn rfl
  subst h0
  have hl:l=[]:=List.eq_nil_of_length_eq_zero (by omega)
  subst hl
  clear hat hok hnn hcap hcm hb0
  go_enter Tryz.func132,Tryz.ntmps132
  go_wp2_with (at_builtin;refine wpList_append_own_none rfl _ _ 23 rfl w.heap.size 3 i0 1 Tryz.underlying23 hi0 _ 0 [] rfl HROW.out rfl ?_)
  go_ret
  exact ⟨_,rfl,IL.of (l:=[]) HROW.out (fun x hx=>by cases hx) (by simp),In.nil _ _,HB0.out⟩
 | some ad =>
  have HNW:Hid (∀ j u,(vals l)[j]?=some u→(w.alloc (.cells #[] 3)).cell? (ad.add j)=some u):=(HI.out.under hb0).vcells.2
  have HON:=hid (vals_one l)
  have HLn:Hid ((vals l).length=l.length*1):=by show _=_;rw [vals_length];omega
  clear hat hok hnn hcap hcm hb0
  go_enter Tryz.func132,Tryz.ntmps132
  go_wp2_with (at_builtin;refine wpList_append_own_at _ rfl _ _ 23 rfl w.heap.size 3 i0 _ 1 8 Tryz.underlying23 hi0 hz0 hz1 hz2 rfl (by decide) _ 0 [] rfl HROW.out ad l.length cap (vals l) rfl HLn.out HNW.out HON.out (by unfold maxLen;omega) (by omega) (by simp) ?_;intro v' w2 hown2 hg2 _ hat)
  go_ret
  refine ⟨v',rfl,?_,in_own hown2,HB0.out.grown hg2 HB0.out.size (fun j hj=>by cases hj;exact Nat.le_refl _)⟩
  rw [Nat.zero_add,List.nil_append] at hown2
  exact IL.of hown2 HOK.out hfew
theorem IL.front {w:World} {a:Option Addr} {c:Nat} {l:List Int} (h:IL w (.slice a l.length c) l) (k:Nat) (hk:k≤l.length):IL w (.slice a k c) (l.take k):=by
 obtain ⟨⟨a',cap,e,h1,h2,h3,h4⟩,h5,h6⟩:=h
 cases e
 have hl:(l.take k).length=k:=by rw [List.length_take];omega
 refine ⟨⟨a,c,by rw [hl],by omega,h2,h3,fun hn=>?_⟩,fun x hx=>h5 x (List.mem_of_mem_take hx),by omega⟩
 obtain ⟨b,off,rfl,e2,e3⟩:=h4 (by intro e;rw [e] at hn;simp at hn)
 refine ⟨b,off,rfl,e2,fun i hi=>?_⟩
 have hi':i<l.length:=by omega
 rw [e3 i hi']
 simp
theorem rids_any {w:World} {v:Value} {l:List Int} (h:IL w v l):Calls Tryz.prog 128 #[v] w fun e w'=>e=.returned (.bool (idsB l))∧Below w.heap.size w w':=by
 have HI:=hid h
 obtain ⟨⟨a,cap,rfl,hcap,hcm,hnn,hat⟩,hok,hfew⟩:=h
 have HA:=hid hat
 have HOK:=hid hok
 clear hat hok hnn hcm
 go_enter Tryz.func128,Tryz.ntmps128
 go_wp2_with fail
 go_loopg [3] l.length (fun kx s3 wr=>∃ k:Nat,k≤l.length∧l.length - k≤kx∧s3=.int .i64 (k:Int)∧Hid (Below w.heap.size w wr∧idsB (l.take k)=true))
 case atStart=>exact ⟨0,Nat.zero_le _,by omega,rfl,Below.refl _ _,rfl⟩
 case round =>
  obtain ⟨k,hk,hkx,rfl,HR⟩:=hrel
  by_cases hlt:k<l.length
  ·obtain ⟨b,off,rfl,hb,hc⟩:=HA.out (by intro e;rw [e] at hlt;simp at hlt)
   have hck:=kept_cell HR.out.1 (hc k hlt)
   have hok:=HOK.out l[k] (by simp)
   have HX:Hid (l[k]?=some l[k]):=List.getElem?_eq_getElem hlt
   have HT:Hid (l.take (k+1)=l.take k++[l[k]]):=List.take_succ_eq_append_getElem hlt
   have HF:=hid (HI.out.front k (by omega))
   have hlt':(k:Int)<(l.length:Int):=by omega
   have hk0:(0:Int)≤(k:Int):=by omega
   have hkc:(k:Int)≤(cap:Int):=by omega
   generalize l[k]=y at *
   clear hc
   have H42:Hid (∀ W,Below w.heap.size w W→Calls Tryz.prog 83 #[.slice (some ⟨b,off,none⟩) k cap,.int .i64 y] W fun e w'=>e=.returned (.bool (hasB (l.take k) y))∧w'=W):=fun W hb=>(rhas_any (HF.out.under hb) y hok).mono fun e w' ⟨p,q⟩=>⟨p,q.symm⟩
   cases hB:hasB (l.take k) y with
   | true =>
    rw [hB] at H42
    have HN:=hid (ids_twice HX.out (hasB_iff.1 hB))
    clear hB
    by_cases h1:y<1
    ·go_wp2_with fail
     go_quiet ((go_at_call 83;exact Calls.quiet_of_same (H42.out _ (below_drewN HR.out.1 _))))
     go_wp2_with fail
     go_ret
     exact ⟨by rw [HN.out];rfl,below_drewN HR.out.1 _⟩
    ·by_cases h7:7<y
     ·go_wp2_with fail
      go_quiet ((go_at_call 83;exact Calls.quiet_of_same (H42.out _ (below_drewN HR.out.1 _))))
      go_wp2_with fail
      go_ret
      exact ⟨by rw [HN.out];rfl,below_drewN HR.out.1 _⟩
     ·go_wp2_with fail
      go_quiet ((go_at_call 83;exact Calls.quiet_of_same (H42.out _ (below_drewN HR.out.1 _))))
      go_wp2_with fail
      go_ret
      exact ⟨by rw [HN.out];rfl,below_drewN HR.out.1 _⟩
   | false =>
    rw [hB] at H42
    have HNI:Hid (y ∉ l.take k):=fun hn=>by rw [hasB_iff.2 hn] at hB;cases hB
    clear hB
    by_cases h1:y<1
    ·have HN:=hid (ids_not HX.out (by omega))
     go_wp2_with fail
     go_quiet ((go_at_call 83;exact Calls.quiet_of_same (H42.out _ (below_drewN HR.out.1 _))))
     go_wp2_with fail
     go_ret
     exact ⟨by rw [HN.out];rfl,below_drewN HR.out.1 _⟩
    ·by_cases h7:7<y
     ·have HN:=hid (ids_not HX.out (by omega))
      go_wp2_with fail
      go_quiet ((go_at_call 83;exact Calls.quiet_of_same (H42.out _ (below_drewN HR.out.1 _))))
      go_wp2_with fail
      go_ret
      exact ⟨by rw [HN.out];rfl,below_drewN HR.out.1 _⟩
     ·have HS:=hid (ids_snoc HR.out.2 (by omega) HNI.out)
      go_wp2_with fail
      go_quiet ((go_at_call 83;exact Calls.quiet_of_same (H42.out _ (below_drewN HR.out.1 _))))
      go_wp2_with fail
      go_roundg (l.length - (k+1))
      case measure=>omega
      case rel=>exact ⟨k+1,by omega,Nat.le_refl _,by go_num,below_drewN HR.out.1 _,by rw [HT.out];exact HS.out⟩
  ·have hlt':¬ (k:Int)<(l.length:Int):=by omega
   go_wp2_with fail
   go_ret
   have hr:=HR.out
   rw [List.take_of_length_le (by omega)] at hr
   exact ⟨by rw [hr.2];rfl,hr.1⟩
def ledP (p:Pt) (l:Int):Pt:=if p.leader=l then p else { p with leader:=l,epoch:=p.epoch+1 }
def verP (p:Pt):Pt × Int:=if 1000000000<p.ver+1∨1000000000<p.epoch then (Pt.zero,20) else ({ p with ver:=p.ver+1 },0)
theorem led_ver (p:Pt) (l:Int):verP (ledP p l)=changedP p l:=by
 obtain ⟨id,ld,ep,vr,isr,reps,add,rem,mn⟩:=p
 by_cases h:ld=l
 ·subst h
  have e1:ledP ⟨id,ld,ep,vr,isr,reps,add,rem,mn⟩ ld=⟨id,ld,ep,vr,isr,reps,add,rem,mn⟩:=by simp [ledP]
  have e2:nextP ⟨id,ld,ep,vr,isr,reps,add,rem,mn⟩ ld=⟨id,ld,ep,vr+1,isr,reps,add,rem,mn⟩:=by simp [nextP]
  unfold changedP
  rw [e1,e2]
  show (if 1000000000<vr+1∨1000000000<ep then _ else _)=_
  by_cases h2:1000000000<vr+1∨1000000000<ep
  ·rw [if_pos h2,if_pos]
   simp only [overB,decide_eq_true_eq];omega
  ·rw [if_neg h2,if_neg]
   simp only [overB,decide_eq_true_eq];omega
 ·have e1:ledP ⟨id,ld,ep,vr,isr,reps,add,rem,mn⟩ l=⟨id,l,ep+1,vr,isr,reps,add,rem,mn⟩:=by simp [ledP,h]
  have e2:nextP ⟨id,ld,ep,vr,isr,reps,add,rem,mn⟩ l=⟨id,l,ep+1,vr+1,isr,reps,add,rem,mn⟩:=by unfold nextP;rw [if_neg (fun e=>h (Eq.symm e))]
  unfold changedP
  rw [e1,e2]
  show (if 1000000000<vr+1∨1000000000<ep+1 then _ else _)=_
  by_cases h2:1000000000<vr+1∨1000000000<ep+1
  ·rw [if_pos h2,if_pos]
   simp only [overB,decide_eq_true_eq];omega
  ·rw [if_neg h2,if_neg]
   simp only [overB,decide_eq_true_eq];omega
theorem ver_changed (p:Pt):verP p=changedP p p.leader:=by rw [← led_ver];unfold ledP;rw [if_pos rfl]
theorem rleads_any {w:World} {v:Value} {p:Pt} {X:Nat→Prop} (h:PartM w v p) (hX:InP X v p) (l:Int) (hl:I64 l) (he:1≤p.epoch∧p.epoch≤1000000000):Calls Tryz.prog 127 #[v,.int .i64 l] w fun e w'=>∃ v',e=.returned v'∧PartM w' v' (ledP p l)∧InP X v' (ledP p l)∧Below w.heap.size w w':=by
 obtain ⟨id,ld,ep,vr,isr,reps,add,rem,mn⟩:=p
 obtain ⟨a1,c1,a2,c2,a3,c3,a4,c4,rfl,q1,q2,q3,q4,i0,i1,i2,i3,i4⟩:=h.open
 simp only at q1 q2 q3 q4 i0 i1 i2 i3 i4 ⊢
 have Q1:=hid q1
 have Q2:=hid q2
 have Q3:=hid q3
 have Q4:=hid q4
 clear h q1 q2 q3 q4
 have HXX:=hid (hX _ _ _ _ _ _ _ _ _ rfl)
 clear hX
 simp only at he
 obtain ⟨he1,he2⟩:=he
 have HB2:Hid (∀ O1 O2,Below w.heap.size w ((w.alloc O1).alloc O2)):=fun O1 O2=>((Below.refl _ _).alloc (Nat.le_refl _) _).alloc (by simp) _
 by_cases h1:ld=l
 ·subst h1
  have HE:Hid (ledP ⟨id,ld,ep,vr,isr,reps,add,rem,mn⟩ ld=⟨id,ld,ep,vr,isr,reps,add,rem,mn⟩):=by show _=_;simp [ledP]
  rw [HE.out]
  have HI:Hid (I64 id∧I64 ld∧I64 ep∧I64 vr∧I64 mn):=⟨i0,i1,i2,i3,i4⟩
  clear HE i0 i1 i2 i3 i4
  go_enter Tryz.func127,Tryz.ntmps127
  go_wp2_with fail
  exact bodyPost_ret (v:=.agg (PL id ld ep vr a1 isr c1 a2 reps c2 a3 add c3 a4 rem c4 mn)) (by simp [results,Tryz.results127,go_sem]) rfl ⟨_,rfl,⟨_,_,_,_,rfl,Q1.out.under (HB2.out _ _),Q2.out.under (HB2.out _ _),Q3.out.under (HB2.out _ _),Q4.out.under (HB2.out _ _),HI.out⟩,inP_of HXX.out.1 HXX.out.2.1 HXX.out.2.2.1 HXX.out.2.2.2,HB2.out _ _⟩
 ·have HE:Hid (ledP ⟨id,ld,ep,vr,isr,reps,add,rem,mn⟩ l=⟨id,l,ep+1,vr,isr,reps,add,rem,mn⟩):=by show _=_;simp [ledP,h1]
  rw [HE.out]
  have HI:Hid (I64 id∧I64 l∧I64 (ep+1)∧I64 vr∧I64 mn):=⟨i0,hl,by unfold I64;omega,i3,i4⟩
  clear HE i0 i1 i2 i3 i4
  go_enter Tryz.func127,Tryz.ntmps127
  go_wp2_with fail
  exact bodyPost_ret (v:=.agg (PL id l (ep+1) vr a1 isr c1 a2 reps c2 a3 add c3 a4 rem c4 mn)) (by simp [results,Tryz.results127,go_sem]) rfl ⟨_,rfl,⟨_,_,_,_,rfl,Q1.out.under (HB2.out _ _),Q2.out.under (HB2.out _ _),Q3.out.under (HB2.out _ _),Q4.out.under (HB2.out _ _),HI.out⟩,inP_of HXX.out.1 HXX.out.2.1 HXX.out.2.2.1 HXX.out.2.2.2,HB2.out _ _⟩
theorem rchanged_any {w:World} {v:Value} {p:Pt} {X:Nat→Prop} (h:PartM w v p) (hX:InP X v p) (hv:1≤p.ver∧p.ver≤1000000000):Calls Tryz.prog 126 #[v] w fun e w'=>Res X w (verP p) e w':=by
 obtain ⟨id,ld,ep,vr,isr,reps,add,rem,mn⟩:=p
 obtain ⟨a1,c1,a2,c2,a3,c3,a4,c4,rfl,q1,q2,q3,q4,i0,i1,i2,i3,i4⟩:=h.open
 simp only at q1 q2 q3 q4 i0 i1 i2 i3 i4 ⊢
 have Q1:=hid q1
 have Q2:=hid q2
 have Q3:=hid q3
 have Q4:=hid q4
 clear h q1 q2 q3 q4
 have HXX:=hid (hX _ _ _ _ _ _ _ _ _ rfl)
 clear hX
 simp only at hv
 obtain ⟨hv1,hv2⟩:=hv
 have HB2:Hid (∀ O1 O2,Below w.heap.size w ((w.alloc O1).alloc O2)):=fun O1 O2=>((Below.refl _ _).alloc (Nat.le_refl _) _).alloc (by simp) _
 by_cases h2:1000000000<vr+1
 ·have HE:Hid (verP ⟨id,ld,ep,vr,isr,reps,add,rem,mn⟩=(Pt.zero,20)):=by show _=_;unfold verP;rw [if_pos (.inl h2)]
  rw [HE.out]
  clear HE i0 i1 i2 i3 i4
  go_enter Tryz.func126,Tryz.ntmps126
  go_wp2_with fail
  exact bodyPost_ret (v:=.tuple #[.agg PZ,.int .i64 20]) (by simp [results,Tryz.results126,go_sem]) rfl (res_err 20 (HB2.out _ _))
 ·by_cases h3:1000000000<ep
  ·have HE:Hid (verP ⟨id,ld,ep,vr,isr,reps,add,rem,mn⟩=(Pt.zero,20)):=by show _=_;unfold verP;rw [if_pos (.inr h3)]
   rw [HE.out]
   clear HE i0 i1 i2 i3 i4
   go_enter Tryz.func126,Tryz.ntmps126
   go_wp2_with fail
   exact bodyPost_ret (v:=.tuple #[.agg PZ,.int .i64 20]) (by simp [results,Tryz.results126,go_sem]) rfl (res_err 20 (HB2.out _ _))
  ·have HE:Hid (verP ⟨id,ld,ep,vr,isr,reps,add,rem,mn⟩=(⟨id,ld,ep,vr+1,isr,reps,add,rem,mn⟩,0)):=by show _=_;unfold verP;rw [if_neg (by simp only;omega)]
   rw [HE.out]
   have HI:Hid (I64 id∧I64 ld∧I64 ep∧I64 (vr+1)∧I64 mn):=⟨i0,i1,i2,by unfold I64;omega,i4⟩
   clear HE i0 i1 i2 i3 i4
   go_enter Tryz.func126,Tryz.ntmps126
   go_wp2_with fail
   exact bodyPost_ret (v:=.tuple #[.agg (PL id ld ep (vr+1) a1 isr c1 a2 reps c2 a3 add c3 a4 rem c4 mn),.int .i64 0]) (by simp [results,Tryz.results126,go_sem]) rfl ⟨_,rfl,⟨_,_,_,_,rfl,Q1.out.under (HB2.out _ _),Q2.out.under (HB2.out _ _),Q3.out.under (HB2.out _ _),Q4.out.under (HB2.out _ _),HI.out⟩,inP_of HXX.out.1 HXX.out.2.1 HXX.out.2.2.1 HXX.out.2.2.2,HB2.out _ _⟩
end Go.Proofs.YtcffomhcmilcpaaGreat
