/- The document's image: who is up,a broker's place. -/
import Derived.Test.YtcffomhcmilcpaaGreatC17
import Derived.Test.YtcffomhcmilcpaaGreatC8
import Derived.Laws.BitsAllLaws
import Derived.Test.YtcffomhcmilcpaaGreatRows
import Derived.WalkKit
import Derived.WalkSpells
import Derived.WalkLawsBesides
import Derived.Laws.BitsAll
import Derived.Lib.Zigzag
import Derived.Deep.LoopGhost
import Derived.Maps.AppendAt
import Derived.Maps.Range
set_option maxRecDepth 100000
set_option maxHeartbeats 20000000
set_option linter.unusedVariables false
set_option linter.unusedSimpArgs false
namespace Go.Proofs.YtcffomhcmilcpaaGreat
open Go.RowKit Go.Maps
theorem rup_any {w:World} {L:Nat→Prop} {q:Nat} {vb vt vp ve:Value} {ps:List (Value × Pt)} {I:Im} (h:DC w L q vb vt vp ve ps I):Calls Tryz.prog 38 #[.pointer (some ⟨q,0,none⟩)] w fun e w'=>∃ v',e=.returned v'∧IL w' v' (upL I.brs)∧In (fun b=>w.heap.size≤b) v' (upL I.brs)∧Below w.heap.size w w':=by
 have hl7:=keys_few h.ok.keys (fun p hp=>(h.ok.brs p hp).1)
 have HBR:=hid h.ok.brs
 obtain ⟨i0,hi0,hz0,hz1,hz2⟩:=info3
 obtain ⟨ob,cb,rfl,_,_,_,hat⟩:=row_shape h.brs
 have HI:=hid h
 clear h
 go_enter Tryz.func38,Tryz.ntmps38
 go_wp2_with fail
 go_loopg [3,4] I.brs.length (fun kx s3 s4 wr=>∃ k:Nat,k≤I.brs.length∧I.brs.length - k≤kx∧s4=.int .i64 (k:Int)∧Hid (wr.ownsRow w.heap.size 3 1 s3 (upL (I.brs.take k)).length (vals (upL (I.brs.take k)))∧Below w.heap.size w wr)∧(∃ a n c,s3=.slice a n c))
 case atStart=>exact ⟨0,Nat.zero_le _,by omega,rfl,⟨World.ownsRow_nil _ _ _ _,Below.refl _ _⟩,⟨_,_,_,rfl⟩⟩
 case round =>
  obtain ⟨k,hk,hkx,rfl,HR,⟨a1,n1,c1,rfl⟩⟩:=hrel
  have d1:=(HI.out.under HR.out.2).c1
  by_cases hlt:k<I.brs.length
  ·obtain ⟨g,rfl⟩:=hat (by omega)
   obtain ⟨b0,b1,b2⟩:=(HI.out.under HR.out.2).br k _ (List.getElem?_eq_getElem hlt)
   have HS:=hid (upL_snoc I.brs k hlt)
   have hlt':(k:Int)<(I.brs.length:Int):=by omega
   have hn1:(upL (I.brs.take k)).length≤k:=by have:=upL_len (I.brs.take k);rw [List.length_take] at this;omega
   generalize I.brs[k]=z at *
   obtain ⟨y,lf,u⟩:=z
   simp only at b0 b1 b2 HS
   cases u with
   | true =>
    rw [if_pos rfl] at HS
    have HX:Hid ((wr.alloc (.cells #[.int .i64 y] 3)).ownsRow w.heap.size 3 1 (.slice a1 n1 c1) (upL (I.brs.take k)).length (vals (upL (I.brs.take k)))):=HR.out.1.alloc _
    have HN1:Hid (∀ j u,([.int .i64 y]:List Value)[j]?=some u→(wr.alloc (.cells #[.int .i64 y] 3)).cell? ((⟨wr.heap.size,0,none⟩:Addr).add j)=some u):=fun j u hu=>by
     cases j with
     | zero=>simp at hu;subst hu;rw [add_at];exact cell_blk (heap_alloc_new _ _) 0 _ rfl
     | succ j=>simp at hu
    have HO1:Hid (∀ u∈([.int .i64 y]:List Value),u.oneCell'=true):=fun u hu=>by simp at hu;subst hu;rfl
    have hbs1:=HR.out.2.size
    go_wp2_with (at_builtin;go_loud (refine wpList_append_own_at _ rfl _ _ 23 rfl w.heap.size 3 i0 _ 1 8 Tryz.underlying23 hi0 hz0 hz1 hz2 rfl (by decide) _ (upL (I.brs.take k)).length _ rfl HX.out ⟨wr.heap.size,0,none⟩ 1 1 [.int .i64 y] rfl rfl HN1.out HO1.out (by unfold maxLen;omega) (by omega) (by simp;omega) ?_);intro v2 w2 hown2 hg2 _ hat2)
    have hsh:∃ a n c,v2=.slice a n c:=by
     rcases hown2.2 with ⟨e,_⟩ | ⟨g,cp,cur,e,_⟩
     ·exact ⟨_,_,_,e⟩
     ·exact ⟨_,_,_,e⟩
    obtain ⟨a2,n2,c2,rfl⟩:=hsh
    have HB2:Hid (Below w.heap.size w w2):=(HR.out.2.alloc hbs1 _).grown hg2 (by have:=(HR.out.2.alloc hbs1 (.cells #[.int .i64 y] 3)).size;exact this) (fun j hj=>(World.ownsRow.lt HX.out j hj).1)
    have HW2:=hid hown2
    clear hown2 hg2 hat2
    go_wp2_with fail
    go_roundg (I.brs.length - (k+1))
    case measure=>omega
    case rel=>exact ⟨k+1,by omega,Nat.le_refl _,by go_num,⟨by rw [HS.out];simp only [List.length_append,List.length_cons,List.length_nil,Nat.zero_add,vals,List.map_append,List.map_cons,List.map_nil];exact HW2.out,HB2.out⟩,⟨_,_,_,rfl⟩⟩
   | false =>
    rw [if_neg (by simp),List.append_nil] at HS
    go_wp2_with fail
    go_roundg (I.brs.length - (k+1))
    case measure=>omega
    case rel=>exact ⟨k+1,by omega,Nat.le_refl _,by go_num,(by rw [HS.out];exact HR.out),⟨_,_,_,rfl⟩⟩
  ·have hlt':¬ (k:Int)<(I.brs.length:Int):=by omega
   go_wp2_with fail
   go_ret
   have hr:=HR.out
   rw [List.take_of_length_le (by omega)] at hr
   exact ⟨_,rfl,IL.of hr.1 (fun x hx=>(by
    obtain ⟨p,hp,rfl⟩:=List.mem_map.1 hx
    have:=(HBR.out p (List.mem_filter.1 hp).1).1
    unfold I64;omega)) (by have:=upL_len I.brs;omega),in_own hr.1,hr.2⟩
def posB (bs:BM) (n:Int):Int:=match bs.findIdx? (fun p=>p.1 == n) with | some i=>(i:Int) | none=>-1
theorem rbroker_any {w:World} {L:Nat→Prop} {q:Nat} {vb vt vp ve:Value} {ps:List (Value × Pt)} {I:Im} (h:DC w L q vb vt vp ve ps I) (n:Int) (hn:I64 n):Calls Tryz.prog 75 #[.pointer (some ⟨q,0,none⟩),.int .i64 n] w fun e w'=>e=.returned (.int .i64 (posB I.brs n))∧w=w':=by
 have hl7:=keys_few h.ok.keys (fun p hp=>(h.ok.brs p hp).1)
 obtain ⟨ob,cb,rfl,_,_,_,hat⟩:=row_shape h.brs
 have d1:=h.c1
 have HI:=hid h
 clear h
 go_enter Tryz.func75,Tryz.ntmps75
 go_wp2_with fail
 go_loopg [5] I.brs.length (fun kx s5 wr=>∃ k:Nat,k≤I.brs.length∧I.brs.length - k≤kx∧s5=.int .i64 (k:Int)∧wr=w∧Hid (∀ i (hi:i<I.brs.length),i<k→I.brs[i].1≠n))
 case atStart=>exact ⟨0,Nat.zero_le _,by omega,rfl,rfl,fun i hi h=>by omega⟩
 case round =>
  obtain ⟨k,hk,hkx,rfl,rfl,HF⟩:=hrel
  by_cases hlt:k<I.brs.length
  ·obtain ⟨g,rfl⟩:=hat (by omega)
   obtain ⟨b0,b1,b2⟩:=HI.out.br k _ (List.getElem?_eq_getElem hlt)
   have hlt':(k:Int)<(I.brs.length:Int):=by omega
   have HP:Hid (I.brs[k].1=n→posB I.brs n=(k:Int)):=fun e=>by
    unfold posB
    have:I.brs.findIdx? (fun p=>p.1 == n)=some k:=by
     rw [List.findIdx?_eq_some_iff_getElem]
     refine ⟨hlt,by simp [e],fun j hj=>?_⟩
     simp
     exact HF.out j (by omega) hj
    rw [this]
   have HNX:Hid (I.brs[k].1≠n→∀ i (hi:i<I.brs.length),i<k+1→I.brs[i].1≠n):=fun hne i hi h=>by
    rcases Nat.lt_or_ge i k with h2 | h2
    ·exact HF.out i hi h2
    ·have:i=k:=by omega
     subst this
     exact hne
   generalize I.brs[k].1=y at *
   clear b1 b2
   by_cases he:y=n
   ·have HPO:=hid (HP.out he)
    subst he
    go_wp2_with fail
    go_ret
    exact ⟨by rw [HPO.out];rfl,rfl⟩
   ·have he':(y == n)=false:=by simp [he]
    go_wp2_with fail
    go_roundg (I.brs.length - (k+1))
    case measure=>omega
    case rel=>exact ⟨k+1,by omega,Nat.le_refl _,by go_num,rfl,HNX.out he⟩
  ·have hlt':¬ (k:Int)<(I.brs.length:Int):=by omega
   have HN:Hid (posB I.brs n=-1):=by
    show _=_
    unfold posB
    have:I.brs.findIdx? (fun p=>p.1 == n)=none:=by
     rw [List.findIdx?_eq_none_iff]
     intro x hx
     obtain ⟨i,hi,e⟩:=List.getElem_of_mem hx
     have:=HF.out i hi (by omega)
     rw [e] at this
     simpa using this
    rw [this]
   go_wp2_with fail
   go_ret
   exact ⟨by rw [HN.out];rfl,rfl⟩
section
variable {w w3:World} {L:Nat→Prop} {q:Nat} {vb vt vp ve v2:Value} {ps:List (Value × Pt)} {I:Im}
theorem DC.ne_q (h:DC w L q vb vt vp ve ps I):vb.ownBlock≠some q∧vt.ownBlock≠some q∧vp.ownBlock≠some q∧ve.ownBlock≠some q:=by
 refine ⟨fun e=>?_,fun e=>?_,fun e=>?_,fun e=>?_⟩
 ·obtain ⟨cur,hc⟩:=row_blk h.brs e;rw [h.cells] at hc;cases hc
 ·obtain ⟨cur,hc⟩:=row_blk h.tops e;rw [h.cells] at hc;cases hc
 ·obtain ⟨cur,hc⟩:=row_blk h.parts e;rw [h.cells] at hc;cases hc
 ·obtain ⟨cur,hc⟩:=row_blk h.eps e;rw [h.cells] at hc;cases hc
theorem DC.ne_e (h:DC w L q vb vt vp ve ps I) {k:Nat} (hk:ve.ownBlock=some k):vb.ownBlock≠some k∧vt.ownBlock≠some k∧vp.ownBlock≠some k:=by
 obtain ⟨c0,h0⟩:=row_blk h.eps hk
 refine ⟨fun e=>?_,fun e=>?_,fun e=>?_⟩
 ·obtain ⟨c1,h1⟩:=row_blk h.brs e;rw [h0] at h1;cases h1
 ·obtain ⟨c1,h1⟩:=row_blk h.tops e;rw [h0] at h1;cases h1
 ·obtain ⟨c1,h1⟩:=row_blk h.parts e;rw [h0] at h1;cases h1
theorem DC.ne_p (h:DC w L q vb vt vp ve ps I) {k:Nat} (hk:vp.ownBlock=some k):vb.ownBlock≠some k∧vt.ownBlock≠some k∧ve.ownBlock≠some k:=by
 obtain ⟨c0,h0⟩:=row_blk h.parts hk
 refine ⟨fun e=>?_,fun e=>?_,fun e=>?_⟩
 ·obtain ⟨c1,h1⟩:=row_blk h.brs e;rw [h0] at h1;cases h1
 ·obtain ⟨c1,h1⟩:=row_blk h.tops e;rw [h0] at h1;cases h1
 ·obtain ⟨c1,h1⟩:=row_blk h.eps e;rw [h0] at h1;cases h1
theorem DC.ne_t (h:DC w L q vb vt vp ve ps I) {k:Nat} (hk:vt.ownBlock=some k):vb.ownBlock≠some k∧vp.ownBlock≠some k∧ve.ownBlock≠some k:=by
 obtain ⟨c0,h0⟩:=row_blk h.tops hk
 refine ⟨fun e=>?_,fun e=>?_,fun e=>?_⟩
 ·obtain ⟨c1,h1⟩:=row_blk h.brs e;rw [h0] at h1;cases h1
 ·obtain ⟨c1,h1⟩:=row_blk h.parts e;rw [h0] at h1;cases h1
 ·obtain ⟨c1,h1⟩:=row_blk h.eps e;rw [h0] at h1;cases h1
theorem DC.ne_b (h:DC w L q vb vt vp ve ps I) {k:Nat} (hk:vb.ownBlock=some k):vt.ownBlock≠some k∧vp.ownBlock≠some k∧ve.ownBlock≠some k :=
 ⟨fun e=>(h.ne_t e).1 hk,fun e=>(h.ne_p e).1 hk,fun e=>(h.ne_e e).1 hk⟩
theorem DC.swapE (h:DC w L q vb vt vp ve ps I) {l2:List Int} (hs:w.heap.size≤w3.heap.size) (hoth:∀ k,k<w.heap.size→k≠q→ve.ownBlock≠some k→w3.heap[k]?=w.heap[k]?)
  (hq:w3.heap[q]?=some (.cells #[.int .i64 I.applied,vb,vt,vp,v2] 32)) (hrow:w3.ownsRow 0 3 1 v2 l2.length (intsV l2)) (hnew:∀ k,v2.ownBlock=some k→ve.ownBlock=some k∨w.heap.size≤k) (hok:ImOk { I with eps:=l2 }):DC w3 L q vb vt vp v2 ps { I with eps:=l2 }:=by
 refine ⟨hq,row_kept h.brs (fun k hk=>hoth k (row_lt h.brs hk) (fun e=>h.ne_q.1 (by rw [← e];exact hk)) (h.ne_b hk).2.2),row_kept h.tops (fun k hk=>hoth k (row_lt h.tops hk) (fun e=>h.ne_q.2.1 (by rw [← e];exact hk)) (h.ne_t hk).2.2),row_kept h.parts (fun k hk=>hoth k (row_lt h.parts hk) (fun e=>h.ne_q.2.2.1 (by rw [← e];exact hk)) (h.ne_p hk).2.2),hrow,fun x hx=>?_,h.abs,fun k hk=>⟨Nat.lt_of_lt_of_le (h.lists k hk).1 hs,?_⟩,hok⟩
 ·obtain ⟨h1,h2⟩:=h.each x hx
  exact ⟨h1.kept h2 (fun k hk=>hoth k (h.lists k hk).1 (fun e=>(h.lists k hk).2 (.inl e)) (fun e=>(h.lists k hk).2 (.inr (.inr (.inr (.inr e)))))) hs,h2⟩
 ·rintro (e | e | e | e | e)
  ·exact (h.lists k hk).2 (.inl e)
  ·exact (h.lists k hk).2 (.inr (.inl e))
  ·exact (h.lists k hk).2 (.inr (.inr (.inl e)))
  ·exact (h.lists k hk).2 (.inr (.inr (.inr (.inl e))))
  ·rcases hnew k e with e | e
   ·exact (h.lists k hk).2 (.inr (.inr (.inr (.inr e))))
   ·have:=(h.lists k hk).1;omega
end
theorem DC.after {w w1:World} {L1:Nat→Prop} {q:Nat} {vb1 vt1 vp1 ve1:Value} {ps1:List (Value × Pt)} {I1:Im} {Z:Nat→Prop} (h:DC w1 L1 q vb1 vt1 vp1 ve1 ps1 I1) (ho:∀ k,OwnD q vb1 vt1 vp1 ve1 k→Z k∨w.heap.size≤k) (hl:∀ k,L1 k→Z k∨w.heap.size≤k) (hk:Keeps Z w w1):DAfter Z w w1 q I1 :=
 ⟨fun k=>(OwnD q vb1 vt1 vp1 ve1 k∨L1 k),⟨L1,vb1,vt1,vp1,ve1,ps1,h,fun k hk=>.inl hk,fun k hk=>.inr hk,fun k hk=>hk.elim (fun h1=>h.lt h1) (fun h1=>(h.lists k h1).1)⟩,fun k hk=>hk.elim (ho k) (hl k),hk⟩
theorem DImg.after {w:World} {Z q I} (h:DImg w Z q I) {w1:World} (hb:Below w.heap.size w w1):DAfter Z w w1 q I:=⟨Z,h.under hb,fun k hk=>.inl hk,Keeps.of_below hb⟩
theorem row_turn {w:World} {g len c:Nat} {E:List Int} (h:w.ownsRow 0 3 1 (.slice (some ⟨g,0,none⟩) len c) E.length (intsV E)) (j:Nat) (y:Int):(w.setCell ⟨g,j,none⟩ (.int .i64 y)).ownsRow 0 3 1 (.slice (some ⟨g,0,none⟩) len c) (E.set j y).length (intsV (E.set j y)):=by
 obtain ⟨h1,⟨e,h0⟩ | ⟨g',cap',cur,e,hB,hg,hn,hc,hs,ht⟩⟩:=h
 ·cases e
 ·cases e
  refine ⟨by simp [intsV],.inr ⟨g,c,cur.setIfInBounds j (.int .i64 y),by simp,hB,set_box hg,by simpa using hn,hc,by simpa using hs,?_⟩⟩
  have e2:intsV (E.set j y)=(intsV E).set j (.int .i64 y):=by simp [intsV,List.map_set]
  rw [e2,← ht,List.length_set]
  simp only [Nat.mul_one,Array.toList_setIfInBounds]
  rw [List.take_set]
theorem rpid_any {w:World} {Z:Nat→Prop} {q:Nat} {I:Im} (hi:DImg w Z q I) (r:Rc) (hr:I64 r.a):Calls Tryz.prog 37 #[.pointer (some ⟨q,0,none⟩),.int .i64 r.a] w fun e w'=>e=.returned (.tuple #[.int .i64 (pidI I r).2.1,.int .i64 (pidI I r).2.2])∧DAfter Z w w' q (pidI I r).1:=by
 obtain ⟨i0,hi0,hz0,hz1,hz2⟩:=info3
 have HS:=hid (hi.after (Below.refl _ w))
 obtain ⟨L,vb,vt,vp,ve,ps,h,hz4,hz5,hz6⟩:=hi
 have hee:=h.ok.eps
 have HI:=hid h
 have HZ:=hid (And.intro hz4 hz5)
 obtain ⟨oe,ce,rfl,_,_,_,hat⟩:=row_shape h.eps
 have c4:=h.c4
 have hqlt:=h.lt (.inl rfl)
 obtain ⟨R,hR⟩:∃ R,pidI I r=R:=⟨_,rfl⟩
 rw [hR]
 have HF:Hid (R=if r.a<0 then (I,0,1) else if (I.eps.length:Int)<r.a then (I,0,8) else if r.a=0 then (if 1000≤I.eps.length then (I,0,3) else ({ I with eps:=I.eps++[0] },(I.eps.length:Int)+1,0)) else if 1000000000≤(I.eps[r.a.toNat - 1]?).getD 0 then (I,0,20) else ({ I with eps:=I.eps.set (r.a.toNat - 1) ((I.eps[r.a.toNat - 1]?).getD 0+1) },(I.eps[r.a.toNat - 1]?).getD 0+1,0)):=by
  show _=_
  rw [← hR]
  rfl
 clear hR
 generalize r.a=a at *
 by_cases k1:a<0
 ·have HR:Hid (R=(I,0,1)):=by show _=_;rw [HF.out,if_pos k1]
  clear HF h
  rw [HR.out]
  go_enter Tryz.func37,Tryz.ntmps37
  go_wp2_with fail
  go_ret2
  exact ⟨rfl,HS.out⟩
 by_cases k2:(I.eps.length:Int)<a
 ·have HR:Hid (R=(I,0,8)):=by show _=_;rw [HF.out,if_neg k1,if_pos k2]
  clear HF h
  rw [HR.out]
  go_enter Tryz.func37,Tryz.ntmps37
  go_wp2_with fail
  go_ret2
  exact ⟨rfl,HS.out⟩
 by_cases k3:a=0
 ·by_cases k4:1000≤I.eps.length
  ·have HR:Hid (R=(I,0,3)):=by show _=_;rw [HF.out,if_neg k1,if_neg k2,if_pos k3,if_pos k4]
   have k4':¬ ((I.eps.length:Int)<1000):=by omega
   have k4'':(1000:Int)≤(I.eps.length:Int):=by omega
   clear HF h
   rw [HR.out]
   subst k3
   go_enter Tryz.func37,Tryz.ntmps37
   go_wp2_with fail
   go_ret2
   exact ⟨rfl,HS.out⟩
  ·have HR:Hid (R=({ I with eps:=I.eps++[0] },(I.eps.length:Int)+1,0)):=by show _=_;rw [HF.out,if_neg k1,if_neg k2,if_pos k3,if_neg k4]
   have k4':(I.eps.length:Int)<1000:=by omega
   have k4'':¬ ((1000:Int)≤(I.eps.length:Int)):=by omega
   have HX:Hid ((w.alloc (.cells #[.int .i64 0] 3)).ownsRow 0 3 1 (.slice oe I.eps.length ce) I.eps.length (intsV I.eps)):=h.eps.alloc _
   have HN1:Hid (∀ j u,([.int .i64 0]:List Value)[j]?=some u→(w.alloc (.cells #[.int .i64 0] 3)).cell? ((⟨w.heap.size,0,none⟩:Addr).add j)=some u):=fun j u hu=>by
    cases j with
    | zero=>simp at hu;subst hu;rw [add_at];exact cell_blk (heap_alloc_new _ _) 0 _ rfl
    | succ j=>simp at hu
   have HO1:Hid (∀ u∈([.int .i64 0]:List Value),u.oneCell'=true):=fun u hu=>by simp at hu;subst hu;rfl
   have HWZ:Hid ((w.alloc (.cells #[.int .i64 0] 3)).heap.size=w.heap.size+1):=by show _=_;simp
   have HAFT:Hid (∀ (g c:Nat) (w2:World),w2.ownsRow 0 3 1 (.slice (some ⟨g,0,none⟩) (I.eps.length+1) c) (I.eps.length+1) (intsV I.eps++[.int .i64 0])→(w.alloc (.cells #[.int .i64 0] 3)).grownBy w2 (Value.slice oe I.eps.length ce).ownBlock→((Value.slice oe I.eps.length ce).ownBlock=some g∨g=w.heap.size+1) →
     w2.cell? ⟨q,4,none⟩=some (.slice oe I.eps.length ce)∧w2.frozen? ⟨q,4,none⟩=false∧(w2.setCell ⟨q,4,none⟩ (.slice (some ⟨g,0,none⟩) (I.eps.length+1) c)).cell? ⟨q,4,none⟩=some (.slice (some ⟨g,0,none⟩) (I.eps.length+1) c)∧DAfter Z w (w2.setCell ⟨q,4,none⟩ (.slice (some ⟨g,0,none⟩) (I.eps.length+1) c)) q { I with eps:=I.eps++[0] }):=fun g c w2 hown hg hat'=>by
    have hblk:∀ k,k<w.heap.size→(Value.slice oe I.eps.length ce).ownBlock≠some k→w2.heap[k]?=w.heap[k]?:=fun k hk hne=>by
     rw [hg.block k (by rw [HWZ.out];omega) (fun e=>hne e.symm),Below.heap_alloc _ _ _ hk]
    have hqc:=(hblk q hqlt HI.out.ne_q.2.2.2).trans HI.out.cells
    have hs2:=hg.size
    have hws:=HWZ.out
    have hnew:∀ k,(Value.slice (some ⟨g,0,none⟩) (I.eps.length+1) c).ownBlock=some k→(Value.slice oe I.eps.length ce).ownBlock=some k∨w.heap.size≤k:=fun k hk=>by
     cases hk
     rcases hat' with e | e
     ·exact .inl e
     ·exact .inr (by show w.heap.size≤g;omega)
    have hoth:∀ k,k<w.heap.size→k≠q→(Value.slice oe I.eps.length ce).ownBlock≠some k→(w2.setCell ⟨q,4,none⟩ (.slice (some ⟨g,0,none⟩) (I.eps.length+1) c)).heap[k]?=w.heap[k]?:=fun k hk hkq hke=>by
     rw [Below.heap_setCell _ _ _ _ hkq];exact hblk k hk hke
    have hqv:(Value.slice (some ⟨g,0,none⟩) (I.eps.length+1) c).ownBlock≠some q:=fun e=>by
     rcases hnew q e with e | e
     ·exact HI.out.ne_q.2.2.2 e
     ·omega
    have h3:=row_kept hown (w1:=w2.setCell ⟨q,4,none⟩ (.slice (some ⟨g,0,none⟩) (I.eps.length+1) c)) (fun k hk=>Below.heap_setCell _ _ _ _ (fun e=>hqv (by rw [hk,e])))
    have hD:DC (w2.setCell ⟨q,4,none⟩ (.slice (some ⟨g,0,none⟩) (I.eps.length+1) c)) L q vb vt vp (.slice (some ⟨g,0,none⟩) (I.eps.length+1) c) ps { I with eps:=I.eps++[0] }:=HI.out.swapE (by simp;omega) hoth (set_box hqc) (by simpa [intsV] using h3) hnew (HI.out.ok.eps2 (by simp;omega) (fun x hx=>by
     rcases List.mem_append.1 hx with hx | hx
     ·exact HI.out.ok.epv x hx
     ·simp at hx;subst hx;omega))
    refine ⟨cell_blk hqc 4 _ rfl,frz_blk hqc 4,hD.c4,hD.after (fun k hk=>?_) (fun k hk=>.inl (HZ.out.2 k hk)) ⟨hg.os,hg.tape,hg.output,by simp;omega,fun k hk hS=>hoth k hk (fun e=>hS (HZ.out.1 k (.inl e))) (fun e=>hS (HZ.out.1 k (.inr (.inr (.inr (.inr e))))))⟩⟩
    rcases hk with e | e | e | e | e
    ·exact .inl (HZ.out.1 k (.inl e))
    ·exact .inl (HZ.out.1 k (.inr (.inl e)))
    ·exact .inl (HZ.out.1 k (.inr (.inr (.inl e))))
    ·exact .inl (HZ.out.1 k (.inr (.inr (.inr (.inl e)))))
    ·exact (hnew k e).imp (fun e=>HZ.out.1 k (.inr (.inr (.inr (.inr e))))) (fun e=>e)
   clear HF h
   rw [HR.out]
   subst k3
   go_enter Tryz.func37,Tryz.ntmps37
   go_wp2_with (at_builtin;go_loud (refine wpList_append_lies _ rfl _ _ 23 rfl 0 3 i0 _ 1 8 Tryz.underlying23 hi0 hz0 hz1 hz2 rfl (by decide) _ I.eps.length _ rfl HX.out ⟨w.heap.size,0,none⟩ 1 1 [.int .i64 0] rfl rfl HN1.out HO1.out (by decide) (by unfold maxLen;omega) (by omega) (Nat.zero_le _) (w.heap.size+1) HWZ.out ?_);intro g c2 w3 hown3 hg3 hat3 _;obtain ⟨u1,u2,u3,u4⟩:=HAFT.out g c2 w3 hown3 hg3 hat3;have HU4:=hid u4;clear hown3 hg3 hat3 u4)
   go_ret2
   exact ⟨rfl,HU4.out⟩
 ·obtain ⟨j,hj⟩:∃ j:Nat,a=(j:Int)+1:=⟨a.toNat - 1,by omega⟩
  have hjl:j<I.eps.length:=by omega
  have hja:a.toNat - 1=j:=by omega
  have hge:(I.eps[a.toNat - 1]?).getD 0=I.eps[j]:=by rw [hja];simp [hjl]
  obtain ⟨g,rfl⟩:=hat (by omega)
  have hev:=h.ok.epv I.eps[j] (List.getElem_mem hjl)
  have hce:w.cell? ⟨g,j,none⟩=some (.int .i64 I.eps[j]):=by
   have:=World.ownsRow.cells h.eps (g:=g) rfl j (.int .i64 I.eps[j]) (by simp [intsV,hjl])
   rw [add_at,Nat.zero_add] at this
   exact this
  obtain ⟨cur,hcur⟩:=row_blk h.eps (k:=g) rfl
  have hfz:=frz_blk hcur j
  have k3':(a == 0)=false:=by simp [k3]
  have hw1:IntKind.i64.wrap (a - 1)=(j:Int):=by rw [show a - 1=(j:Int) by omega];exact IntWalk.i64_in _ ⟨by omega,by omega⟩
  have hjl':(j:Int)<(I.eps.length:Int):=by omega
  by_cases k5:1000000000≤I.eps[j]
  ·have HR:Hid (R=(I,0,20)):=by show _=_;rw [HF.out,if_neg k1,if_neg k2,if_neg k3,hge,if_pos k5]
   clear HF h hj hja hge
   rw [HR.out]
   generalize I.eps[j]=y at *
   go_enter Tryz.func37,Tryz.ntmps37
   go_wp2_with fail
   go_ret2
   exact ⟨rfl,HS.out⟩
  ·have HR:Hid (R=({ I with eps:=I.eps.set j (I.eps[j]+1) },I.eps[j]+1,0)):=by show _=_;rw [HF.out,if_neg k1,if_neg k2,if_neg k3,hge,if_neg k5,hja]
   have hgq:g≠q:=fun e=>h.ne_q.2.2.2 (by rw [e];rfl)
   have HAFT:Hid (DAfter Z w (w.setCell ⟨g,j,none⟩ (.int .i64 (I.eps[j]+1))) q { I with eps:=I.eps.set j (I.eps[j]+1) }∧(w.setCell ⟨g,j,none⟩ (.int .i64 (I.eps[j]+1))).cell? ⟨q,4,none⟩=some (.slice (some ⟨g,0,none⟩) I.eps.length ce)∧(w.setCell ⟨g,j,none⟩ (.int .i64 (I.eps[j]+1))).cell? ⟨g,j,none⟩=some (.int .i64 (I.eps[j]+1))):=by
    have hoth:∀ k,k≠g→(w.setCell ⟨g,j,none⟩ (.int .i64 (I.eps[j]+1))).heap[k]?=w.heap[k]?:=fun k hk=>Below.heap_setCell _ _ _ _ hk
    have hr:=row_turn h.eps j (I.eps[j]+1)
    have hD:DC (w.setCell ⟨g,j,none⟩ (.int .i64 (I.eps[j]+1))) L q vb vt vp (.slice (some ⟨g,0,none⟩) I.eps.length ce) ps { I with eps:=I.eps.set j (I.eps[j]+1) }:=h.swapE (by simp) (fun k hk hkq hke=>hoth k (fun e=>hke (by rw [e];rfl))) ((hoth q (fun e=>hgq e.symm)).trans h.cells) hr (fun k hk=>.inl hk) (h.ok.eps2 (by simpa using hee) (fun x hx=>by
     rcases List.mem_or_eq_of_mem_set hx with hx | rfl
     ·exact h.ok.epv x hx
     ·omega))
    refine ⟨hD.after (fun k hk=>.inl (HZ.out.1 k hk)) (fun k hk=>.inl (HZ.out.2 k hk)) (Keeps.set w (a:=⟨g,j,none⟩) (HZ.out.1 g (.inr (.inr (.inr (.inr rfl))))) _),hD.c4,?_⟩
    have:=World.ownsRow.cells hr (g:=g) rfl j (.int .i64 (I.eps[j]+1)) (by simp [intsV,hjl])
    rw [add_at,Nat.zero_add] at this
    exact this
   have hyw:IntKind.i64.wrap (I.eps[j]+1)=I.eps[j]+1:=IntWalk.i64_in _ ⟨by omega,by omega⟩
   clear HF h hj hja hge hcur
   rw [HR.out]
   obtain ⟨EE,hEE⟩:∃ EE,EE=I.eps.set j (I.eps[j]+1):=⟨_,rfl⟩
   rw [← hEE] at HAFT ⊢
   clear hEE HR
   generalize I.eps[j]=y at *
   have k5':¬ (1000000000≤y):=k5
   have HA:=hid HAFT.out.1
   have d1:=HAFT.out.2.1
   have d2:=HAFT.out.2.2
   clear HAFT
   go_enter Tryz.func37,Tryz.ntmps37
   go_wp2_with fail
   go_ret2
   exact ⟨rfl,HA.out⟩
end Go.Proofs.YtcffomhcmilcpaaGreat
namespace Go.Proofs.YtcffomhcmilcpaaGreat.W
def crcBit (c:Nat):Nat:=if c % 2=1 then (c / 2) ^^^ 2197175160 else c / 2
def crcBits:Nat→Nat→Nat
 | 0,c=>c
 | k+1,c=>crcBit (crcBits k c)
def crcByte (c:Nat) (b:UInt8):Nat:=crcBits 8 (c ^^^ b.toNat)
def crcRun (c:Nat) (l:List UInt8):Nat:=l.foldl crcByte c
def crcL (l:List UInt8):Nat:=crcRun 4294967295 l ^^^ 4294967295
theorem xor_lt (a b:Nat) (ha:a<4294967296) (hb:b<4294967296):a ^^^ b<4294967296:=Nat.xor_lt_two_pow (n:=32) ha hb
theorem u8_lt (b:UInt8):b.toNat<4294967296:=by have:=b.toNat_lt;omega
theorem crcBit_lt (c:Nat) (h:c<4294967296):crcBit c<4294967296:=by
 unfold crcBit
 split
 ·exact xor_lt _ _ (by omega) (by omega)
 ·omega
theorem crcBits_lt (c:Nat) (h:c<4294967296):∀ k,crcBits k c<4294967296
 | 0=>h
 | k+1=>crcBit_lt _ (crcBits_lt c h k)
theorem crcByte_lt (c:Nat) (b:UInt8) (h:c<4294967296):crcByte c b<4294967296:=crcBits_lt _ (xor_lt _ _ h (u8_lt b)) 8
theorem crcRun_lt:∀ (l:List UInt8) (c:Nat),c<4294967296→crcRun c l<4294967296
 | [],c,h=>h
 | b :: r,c,h=>crcRun_lt r (crcByte c b) (crcByte_lt c b h)
theorem crcL_lt (l:List UInt8):crcL l<4294967296:=xor_lt _ _ (crcRun_lt l _ (by omega)) (by omega)
theorem crcRun_snoc (c:Nat) (l:List UInt8) (b:UInt8):crcRun c (l++[b])=crcByte (crcRun c l) b:=by simp [crcRun]
def zz (n:Int):Nat:=if n<0 then 2*(-(n+1)).toNat+1 else 2*n.toNat
def unzz (z:Nat):Int:=if z % 2=1 then -((z / 2:Nat):Int) - 1 else ((z / 2:Nat):Int)
theorem unzz_zz (n:Int):unzz (zz n)=n:=by unfold unzz zz;split <;> split <;> omega
theorem zz_lt (n:Int) (h1:-9223372036854775808≤n) (h2:n≤9223372036854775807):zz n<18446744073709551616:=by unfold zz;split <;> omega
theorem unzz_range (z:Nat) (h:z<18446744073709551616):-9223372036854775808≤unzz z∧unzz z≤9223372036854775807:=by unfold unzz;split <;> omega
def digs:Nat→Nat→List UInt8
 | 0,z=>[UInt8.ofNat z]
 | f+1,z=>if z<128 then [UInt8.ofNat z] else UInt8.ofNat (z % 128+128) :: digs f (z / 128)
def intL (n:Int):List UInt8:=digs 9 (zz n)
theorem digs_length:∀ f z,1≤(digs f z).length∧(digs f z).length≤f+1
 | 0,z=>by simp [digs]
 | f+1,z=>by
  have:=digs_length f (z / 128)
  unfold digs
  split
  ·simp
  ·simp;omega
theorem intL_length (n:Int):1≤(intL n).length∧(intL n).length≤10:=digs_length 9 _
def rdZ:Nat→Nat→Nat→List UInt8→Nat × Nat × Int
 | 0,_,_,_=>(0,0,4)
 | _+1,_,_,[]=>(0,0,5)
 | f+1,i,z,d :: r =>
  if (i=9∧1<d.toNat)∨(0<i∧d.toNat=0) then (0,0,4)
  else if d.toNat<128 then (z+d.toNat*128 ^ i,i+1,0)
  else rdZ f (i+1) (z+d.toNat % 128*128 ^ i) r
def okI (r:Nat × Nat × Int):Int × Nat × Int:=if r.2.2=0 then (unzz r.1,r.2.1,0) else (0,0,r.2.2)
def readL (l:List UInt8):Int × Nat × Int:=okI (rdZ 10 0 0 l)
theorem toNat_u8 (n:Nat) (h:n<256):(UInt8.ofNat n).toNat=n:=by simp;omega
theorem pow_step (f i:Nat) (h:i+(f+1)=9):128 ^ (f+1)=128*128 ^ f:=by rw [Nat.pow_succ,Nat.mul_comm]
theorem rdZ_digs:∀ (f i z0 z:Nat) (more:List UInt8),i+f=9→z<2*128 ^ f→(i=0∨0<z) →
  rdZ (f+1) i z0 (digs f z++more)=(z0+z*128 ^ i,i+(digs f z).length,0)
 | 0,i,z0,z,more,hi,hz,h0=>by
  have hz':z<2:=by simpa using hz
  have e:=toNat_u8 z (by omega)
  have hi':i=9:=by omega
  have hc:¬ ((i=9∧1<z)∨(0<i∧z=0)):=by omega
  simp only [digs,List.cons_append,List.nil_append,rdZ,e,if_neg hc,if_pos (show z<128 by omega),List.length_singleton]
 | f+1,i,z0,z,more,hi,hz,h0=>by
  rw [pow_step f i hi] at hz
  by_cases hz1:z<128
  ·have e:=toNat_u8 z (by omega)
   have hc:¬ ((i=9∧1<z)∨(0<i∧z=0)):=by omega
   simp only [digs,if_pos hz1,List.cons_append,List.nil_append,rdZ,e,if_neg hc,List.length_singleton]
  ·have e:=toNat_u8 (z % 128+128) (by omega)
   have hc:¬ ((i=9∧1<z % 128+128)∨(0<i∧z % 128+128=0)):=by omega
   have ih:=rdZ_digs f (i+1) (z0+(z % 128+128) % 128*128 ^ i) (z / 128) more (by omega) (by omega) (by omega)
   simp only [digs,if_neg hz1,List.cons_append]
   rw [rdZ,e,if_neg hc,if_neg (by omega),ih]
   have e1:(z % 128+128) % 128=z % 128:=by omega
   have e2:z*128 ^ i=z % 128*128 ^ i+z / 128*128 ^ (i+1):=by
    have h3:z=z % 128+128*(z / 128):=by omega
    have h4:z*128 ^ i=(z % 128+128*(z / 128))*128 ^ i:=by rw [← h3]
    rw [h4,Nat.add_mul,Nat.pow_succ,Nat.mul_comm 128 (z / 128),Nat.mul_assoc,Nat.mul_comm 128 (128 ^ i)]
   rw [e1,e2]
   simp only [List.length_cons,Prod.mk.injEq,and_true]
   omega
theorem readL_intL (n:Int) (more:List UInt8) (h1:-9223372036854775808≤n) (h2:n≤9223372036854775807) :
  readL (intL n++more)=(n,(intL n).length,0):=by
 have hz:=zz_lt n h1 h2
 have:=rdZ_digs 9 0 0 (zz n) more rfl (by show zz n<18446744073709551616;exact hz) (.inl rfl)
 unfold readL intL
 rw [this]
 simp [okI,unzz_zz]
theorem rdZ_range:∀ (f i z:Nat) (l:List UInt8),i+f=10→z<128 ^ i→(rdZ f i z l).1<18446744073709551616∧(rdZ f i z l).2.1≤i+l.length∧(rdZ f i z l).2.1≤10
 | 0,_,_,_,_,_=>by simp [rdZ]
 | _+1,_,_,[],_,_=>by simp [rdZ]
 | f+1,i,z,d :: r,hi,hz=>by
  have hp:128 ^ i≤128 ^ 9:=Nat.pow_le_pow_right (by omega) (by omega)
  have h9:(128:Nat) ^ 9=9223372036854775808:=by decide
  unfold rdZ
  split
  ·simp
  ·rename_i hc
   split
   ·rename_i hd
    refine ⟨?_,by simp,by simp only;omega⟩
    show z+d.toNat*128 ^ i<_
    by_cases h:i=9
    ·have hd1:d.toNat≤1:=by omega
     have:d.toNat*128 ^ i≤1*128 ^ i:=Nat.mul_le_mul_right _ hd1
     omega
    ·have hp8:128 ^ i≤128 ^ 8:=Nat.pow_le_pow_right (by omega) (by omega)
     have h8:(128:Nat) ^ 8=72057594037927936:=by decide
     have:d.toNat*128 ^ i≤127*128 ^ i:=Nat.mul_le_mul_right _ (by omega)
     omega
   ·have e:128 ^ (i+1)=128*128 ^ i:=by rw [Nat.pow_succ,Nat.mul_comm]
    have h127:d.toNat % 128*128 ^ i≤127*128 ^ i:=Nat.mul_le_mul_right _ (by omega)
    have ih:=rdZ_range f (i+1) (z+d.toNat % 128*128 ^ i) r (by omega) (by omega)
    refine ⟨ih.1,?_,ih.2.2⟩
    have:=ih.2.1
    simp only [List.length_cons]
    omega
theorem readL_range (l:List UInt8):(-9223372036854775808≤(readL l).1∧(readL l).1≤9223372036854775807)∧(readL l).2.1≤l.length∧(readL l).2.1≤10:=by
 have h:=rdZ_range 10 0 0 l rfl (by simp)
 unfold readL okI
 split
 ·exact ⟨unzz_range _ h.1,by have:=h.2.1;simp only;omega,h.2.2⟩
 ·exact ⟨⟨by simp,by simp⟩,by simp,by simp⟩
structure Rec where
 key:List UInt8
 val:List UInt8
 time:Int
structure Bat where
 base:Int
 epoch:Int
 pid:Int
 pidEpoch:Int
 seq:Int
 recs:List Rec
def textL (t:List UInt8):List UInt8:=intL t.length++t
def recL (r:Rec):List UInt8:=intL r.time++textL r.key++textL r.val
def recsL:List Rec→List UInt8
 | []=>[]
 | r :: s=>recL r++recsL s
def intsL:List Int→List UInt8
 | []=>[]
 | n :: s=>intL n++intsL s
def numsOf (b:Bat):List Int:=[b.base,b.epoch,b.pid,b.pidEpoch,b.seq]
theorem recsL_append:∀ l m:List Rec,recsL (l++m)=recsL l++recsL m
 | [],m=>rfl
 | r :: s,m=>by simp [recsL,recsL_append s m]
theorem intsL_append:∀ l m:List Int,intsL (l++m)=intsL l++intsL m
 | [],m=>rfl
 | r :: s,m=>by simp [intsL,intsL_append s m]
theorem recsL_snoc (l:List Rec) (r:Rec):recsL (l++[r])=recsL l++recL r:=by rw [recsL_append];simp [recsL]
theorem intsL_snoc (l:List Int) (n:Int):intsL (l++[n])=intsL l++intL n:=by rw [intsL_append];simp [intsL]
theorem intsL_length:∀ l:List Int,(intsL l).length≤l.length*10
 | []=>by simp [intsL]
 | n :: s=>by
  have h1:=intL_length n
  have h3:=intsL_length s
  simp only [intsL,List.length_append,List.length_cons,Nat.add_mul]
  omega
def fourL (n:Nat):List UInt8:=[UInt8.ofNat (n / 16777216),UInt8.ofNat (n / 65536),UInt8.ofNat (n / 256),UInt8.ofNat n]
def fourN:List UInt8→Nat
 | a :: b :: c :: d :: _=>a.toNat*16777216+b.toNat*65536+c.toNat*256+d.toNat
 | _=>0
theorem fourN_fourL (n:Nat) (more:List UInt8) (h:n<4294967296):fourN (fourL n++more)=n:=by
 simp [fourL,fourN];omega
def overB (b:Bat):Bool:=decide (1000000000 - ((b.recs.length:Int) - 1)<b.base) || decide (1000000 - ((b.recs.length:Int) - 1)<b.seq)
/- A reader: what is left;was anything wrong? -/
structure RS where
 rest:List UInt8
 wrong:Bool
def spoiled:RS:=⟨[],true⟩
def numS (s:RS):Int × RS:=if (readL s.rest).2.2=0 then ((readL s.rest).1,⟨s.rest.drop (readL s.rest).2.1,s.wrong⟩) else (0,spoiled)
def countS (most:Int) (s:RS):Int × RS:=if (numS s).1<0∨most<(numS s).1 then (0,spoiled) else numS s
def doneS (s:RS):Bool:=!s.wrong && s.rest.isEmpty
/- What is written is read as it was. -/
def I64 (n:Int):Prop:=-9223372036854775808≤n∧n≤9223372036854775807
theorem numS_intL (n:Int) (more:List UInt8) (h:I64 n):numS ⟨intL n++more,false⟩=(n,⟨more,false⟩):=by
 unfold numS
 simp [readL_intL n more h.1 h.2]
theorem countS_intL (most n:Int) (more:List UInt8) (h:I64 n) (h0:0≤n) (h1:n≤most):countS most ⟨intL n++more,false⟩=(n,⟨more,false⟩):=by
 unfold countS
 rw [numS_intL n more h,if_neg (by simp only;omega)]
end Go.Proofs.YtcffomhcmilcpaaGreat.W
namespace Go.Proofs.YtcffomhcmilcpaaGreat.W
open Go.RowKit Go.Maps
theorem ret_int {k:IntKind} {a b:Int} (h:a=b):Ending.returned (.int k a)=.returned (.int k b):=by rw [h]
theorem ret_bool {a b:Bool} (h:a=b):Ending.returned (.bool a)=.returned (.bool b):=by rw [h]
theorem take_snoc (s:ByteArray) (k:Nat) (h:k<s.size):s.data.toList.take (k+1)=s.data.toList.take k++[s[k]]:=by
 rw [List.take_succ_eq_append_getElem (by simpa using h)];rfl
theorem crc_any (s:ByteArray) (w:World) (hs:s.size≤maxLen) :
  Calls Tryz.prog 87 #[.string s] w fun e w'=>e=.returned (.int .i64 (crcL s.data.toList:Nat))∧w=w':=by
 unfold maxLen at hs
 go_enter Tryz.func87,Tryz.ntmps87
 go_wp2
 go_loop [3,8] (fun c i=>∃ k:Nat,k≤s.size∧i=.int .i64 k∧c=.int .u32 ((crcRun 4294967295 (s.data.toList.take k):Nat):Int)) (fun _ i=>s.size - (intOf i).toNat)
 case atStart=>exact ⟨0,Nat.zero_le _,rfl,rfl⟩
 case round =>
  obtain ⟨k,hk,rfl,rfl⟩:=hrel
  have hc:=crcRun_lt (s.data.toList.take k) 4294967295 (by omega)
  by_cases hlt:k<s.size
  ·have hsn:Hid (crcRun 4294967295 (s.data.toList.take (k+1))=crcByte (crcRun 4294967295 (s.data.toList.take k)) s[k]):=by show _=_;rw [take_snoc s k hlt,crcRun_snoc]
   generalize hC:crcRun 4294967295 (s.data.toList.take k)=C at *
   have hb:=s[k].toNat_lt
   have hx:=u32_xor_nat C s[k].toNat hc (by omega)
   clear hC
   go_wp2
   have hX:=xor_lt C s[k].toNat hc (by omega)
   go_loop [3,17] (fun c j=>∃ m:Nat,m≤8∧j=.int .i64 m∧c=.int .u32 ((crcBits m (C ^^^ s[k].toNat):Nat):Int)) (fun _ j=>8 - (intOf j).toNat)
   case atStart=>exact ⟨0,Nat.zero_le _,rfl,rfl⟩
   case round =>
    obtain ⟨m,hm,rfl,rfl⟩:=hrel
    have hD:=crcBits_lt (C ^^^ s[k].toNat) hX m
    by_cases hm8:m<8
    ·have hst:Hid (crcBits (m+1) (C ^^^ s[k].toNat)=crcBit (crcBits m (C ^^^ s[k].toNat))):=rfl
     clear hx
     generalize crcBits m (C ^^^ s[k].toNat)=D at *
     have hh:=u32_xor_nat (D / 2) 2197175160 (by omega) (by omega)
     rw [show (((D / 2:Nat):Int))=(D:Int) / 2 by omega,show (((2197175160:Nat):Int))=2197175160 by rfl] at hh
     have hm8':(m:Int)<8:=by omega
     by_cases hodd:D % 2=1
     ·have hst2:Hid (crcBits (m+1) (C ^^^ s[k].toNat)=(D / 2) ^^^ 2197175160):=by show _=_;rw [hst.out,crcBit,if_pos hodd]
      have ha:bits .and .u32 (D:Int) 1=1:=by have:=u32_and_nat D 1 (by omega) (by omega);rw [nat_mask1] at this;rw [show (((1:Nat):Int))=1 by rfl] at this;rw [this];omega
      go_wp2
      go_round
      case rel=>exact ⟨m+1,by omega,by go_num,by rw [hst2.out]⟩
      case measure=>simp [intOf];omega
     ·have hst2:Hid (crcBits (m+1) (C ^^^ s[k].toNat)=D / 2):=by show _=_;rw [hst.out,crcBit,if_neg hodd]
      have ha:bits .and .u32 (D:Int) 1=0:=by have:=u32_and_nat D 1 (by omega) (by omega);rw [nat_mask1] at this;rw [show (((1:Nat):Int))=1 by rfl] at this;rw [this];omega
      go_wp2
      go_round
      case rel=>exact ⟨m+1,by omega,by go_num,by rw [hst2.out];go_num⟩
      case measure=>simp [intOf];omega
    ·have hm8':¬ (m:Int)<8:=by omega
     have hm9:m=8:=by omega
     subst hm9
     go_wp2
     go_round
     case rel=>exact ⟨k+1,by omega,by go_num,by rw [hsn.out];rfl⟩
     case measure=>simp [intOf];omega
  ·have he:s.data.toList.take k=s.data.toList:=List.take_of_length_le (by simp;omega)
   have hx:bits .xor .u32 IntKind.u32.max ((crcRun 4294967295 (s.data.toList.take k):Nat):Int)=((crcL s.data.toList:Nat):Int):=by
    rw [he,show IntKind.u32.max=((4294967295:Nat):Int) by decide,u32_xor_nat _ _ (by omega) (by rw [← he];exact hc),Nat.xor_comm];rfl
   have hcl:=crcL_lt s.data.toList
   have hlt':¬ (k:Int)<(s.size:Int):=by omega
   clear he
   go_wp2
   go_ret
   exact ⟨ret_int (IntWalk.wrap64_in _ ⟨by omega,by omega⟩),rfl⟩
theorem hid {p:Prop} (h:p):Hid p:=h
theorem info5:∃ i,Tryz.prog.info? 5=some i∧i.zero=some (.int .u8 0)∧i.size=1∧i.bytes=1:=⟨_,rfl,rfl,rfl,rfl⟩
theorem cell_new {w1:World} {cs:Array Value} {t:TypeId} {b:Nat} (hb:b=w1.heap.size) {j:Nat} {u:Value} (hu:cs[j]?=some u):(w1.alloc (.cells cs t)).cell? ⟨b,j,none⟩=some u:=by
 subst hb
 have h:=heap_alloc_new w1 (.cells cs t)
 show (match (w1.alloc (.cells cs t)).heap[w1.heap.size]? with | some (.cells c _ _)=>c[j]? | _=>none)=_
 rw [h]
 exact hu
theorem one_cell {w1:World} {v:Value} {t:TypeId} {b:Nat} (hb:b=w1.heap.size):∀ (j:Nat) (u:Value),[v][j]?=some u→(w1.alloc (.cells #[v] t)).cell? ((⟨b,0,none⟩:Addr).add j)=some u:=fun j u hu=>by
 have hadd:(⟨b,0,none⟩:Addr).add j=⟨b,j,none⟩:=by unfold Addr.add;split <;> simp_all
 rw [hadd]
 exact cell_new hb (by simpa using hu)
def u8c (l:List UInt8):List Value:=l.map fun b=>.int .u8 (b.toNat:Int)
theorem u8c_append (l m:List UInt8):u8c (l++m)=u8c l++u8c m:=by simp [u8c]
def Row (w:World) (B:Nat) (v:Value) (l:List UInt8):Prop:=w.ownsRow B 5 1 v l.length (u8c l)
theorem Row.nil (w:World) (B:Nat):Row w B (.slice none 0 0) []:=World.ownsRow_nil w B 5 1
theorem Row.alloc {w:World} {B:Nat} {v:Value} {l:List UInt8} (h:Row w B v l) (o:Obj):Row (w.alloc o) B v l:=by
 obtain ⟨h1,h2⟩:=h
 refine ⟨h1,?_⟩
 rcases h2 with h2 | ⟨g,cap,cur,e,hB,hg,r⟩
 ·exact .inl h2
 ·refine .inr ⟨g,cap,cur,e,hB,?_,r⟩
  have:g<w.heap.size:=by
   rcases Nat.lt_or_ge g w.heap.size with h | h
   ·exact h
   ·rw [Array.getElem?_eq_none h] at hg;cases hg
  rw [Below.heap_alloc w o g this]
  exact hg
theorem Row.drew {w:World} {B:Nat} {v:Value} {l:List UInt8} (h:Row w B v l):Row w.drew B v l:=h
theorem Row.base {w:World} {B B':Nat} {v:Value} {l:List UInt8} (h:Row w B v l) (hB:B'≤B):Row w B' v l:=by
 obtain ⟨h1,h2⟩:=h
 refine ⟨h1,?_⟩
 rcases h2 with h2 | ⟨g,cap,cur,e,hB2,r⟩
 ·exact .inl h2
 ·exact .inr ⟨g,cap,cur,e,Nat.le_trans hB hB2,r⟩
theorem Row.own {w:World} {B:Nat} {v:Value} {l:List UInt8} (h:Row w B v l):∀ k,v.ownBlock=some k→B≤k:=fun k hk=>(World.ownsRow.lt h k hk).1
theorem Row.under {w w':World} {B B':Nat} {v:Value} {l:List UInt8} (h:Row w B v l) (hb:Below w.heap.size w w'):Row w' B v l:=by
 obtain ⟨h1,h2⟩:=h
 refine ⟨h1,?_⟩
 rcases h2 with h2 | ⟨g,cap,cur,e,hB,hg,r⟩
 ·exact .inl h2
 ·refine .inr ⟨g,cap,cur,e,hB,?_,r⟩
  have:g<w.heap.size:=by
   rcases Nat.lt_or_ge g w.heap.size with h | h
   ·exact h
   ·rw [Array.getElem?_eq_none h] at hg;cases hg
  rw [hb.block g this]
  exact hg
theorem Row.of {w:World} {B:Nat} {v:Value} {l m:List UInt8} (h:w.ownsRow B 5 1 v (l.length+m.length) (u8c l++u8c m)):Row w B v (l++m):=by
 unfold Row
 rw [List.length_append,u8c_append]
 exact h
structure Grow (w w':World) (v v':Value):Prop where
 grown:w.grownBy w' v.ownBlock
 own:∀ q,v'.ownBlock=some q→v.ownBlock=some q∨w.heap.size≤q
theorem Grow.refl (w:World) (v:Value):Grow w w v v:=⟨World.grownBy.refl _ _,fun q h=>.inl h⟩
theorem Grow.trans {w w1 w2:World} {v v1 v2:Value} (h:Grow w w1 v v1) (k:Grow w1 w2 v1 v2):Grow w w2 v v2 :=
 ⟨h.grown.andThen k.grown (fun j hj=>(h.own j hj).symm),fun q hq=>by
  rcases k.own q hq with h1 | h1
  ·exact h.own q h1
  ·exact .inr (Nat.le_trans h.grown.size h1)⟩
theorem Grow.alloc {w w1:World} {v v1:Value} (h:Grow w w1 v v1) (O:Obj):Grow w (w1.alloc O) v v1 :=
 ⟨h.grown.trans (World.grownBy_alloc w1 O _),h.own⟩
theorem Grow.block {w w1:World} {v v1:Value} (h:Grow w w1 v v1) {q:Nat} (hq:q<w.heap.size) (hv:v.ownBlock≠some q):w1.heap[q]?=w.heap[q]?∧v1.ownBlock≠some q∧q<w1.heap.size :=
 ⟨h.grown.block q hq (fun e=>hv e.symm),fun e=>by
  rcases h.own q e with h1 | h1
  ·exact hv h1
  ·omega,Nat.lt_of_lt_of_le hq h.grown.size⟩
theorem Grow.step {w wr w2:World} {v0 v v':Value} (h:Grow w wr v0 v) (O:Obj) (hg:(wr.alloc O).grownBy w2 v.ownBlock) (hat:v'.ownBlock=v.ownBlock∨v'.ownBlock=some (wr.alloc O).heap.size):Grow w w2 v0 v' :=
 (h.alloc O).trans ⟨hg,fun q hq=>by
  rcases hat with h1 | h1
  ·exact .inl (h1 ▸ hq)
  ·rw [h1] at hq;cases hq;exact .inr (Nat.le_refl _)⟩
/- Ints as digits. -/
theorem not_neg (n:Int) (h1:-9223372036854775808≤n) (h2:n<0):bits .xor .i64 (-1) n=-1 - n:=by
 show IntKind.i64.wrap ((BitVec.ofInt 64 (-1) ^^^ BitVec.ofInt 64 n).toNat:Int)=_
 have e1:(BitVec.ofInt 64 (-1)).toNat=2 ^ 64 - 1:=by decide
 have e2:(BitVec.ofInt 64 n).toNat=(n+18446744073709551616).toNat:=by
  rw [BitVec.toNat_ofInt]
  have:(n % ((2 ^ 64:Nat):Int))=n+18446744073709551616:=by
   rw [show ((2 ^ 64:Nat):Int)=18446744073709551616 by rfl];omega
  rw [this]
 rw [BitVec.toNat_xor,e1,e2,Lib.xor_ones64 _ (by omega),IntKind.wrap_i64]
 omega
theorem folded_any (n:Int) (w:World) (h:I64 n):Calls Tryz.prog 172 #[.int .i64 n] w fun e w'=>e=.returned (.int .u64 ((zz n:Nat):Int))∧w=w':=by
 obtain ⟨h1,h2⟩:=h
 by_cases hn:n<0
 ·have hx:=not_neg n h1 hn
  have hor:=u64_or_nat (2*(-(n+1)).toNat) 1 (by omega) (by omega)
  have ej:2*(-(n+1)).toNat ||| 1=2*(-(n+1)).toNat+1:=nat_join 1 _ 1 (by omega) (by omega)
  rw [ej] at hor
  have hz:zz n=2*(-(n+1)).toNat+1:=by unfold zz;rw [if_pos hn]
  rw [← hz] at hor
  have hor2:bits .or .u64 ((-1 - n)*2) 1=((zz n:Nat):Int):=by
   rw [← hor]
   congr 1
   omega
  have hwr:IntKind.u64.wrap (IntKind.u64.wrap (-1 - n)*2)=(-1 - n)*2:=by rw [IntKind.wrap_u64,IntKind.wrap_u64];omega
  have H:Hid (bits .or .u64 (IntKind.u64.wrap (IntKind.u64.wrap (-1 - n)*2)) 1=((zz n:Nat):Int)):=by show _=_;rw [hwr,hor2]
  clear ej hor hz hor2 hwr
  go_enter Tryz.func172,Tryz.ntmps172
  go_wp2
  go_ret
  exact ⟨ret_int H.out,rfl⟩
 ·have hz:((zz n:Nat):Int)=n*2:=by unfold zz;rw [if_neg hn];omega
  have H:=hid hz
  clear hz
  go_enter Tryz.func172,Tryz.ntmps172
  go_wp2
  go_ret
  exact ⟨ret_int H.out.symm,rfl⟩
theorem unfolded_any (z:Nat) (w:World) (h:z<18446744073709551616):Calls Tryz.prog 134 #[.int .u64 (z:Int)] w fun e w'=>e=.returned (.int .i64 (unzz z))∧w=w':=by
 have ha:=u64_and_nat z 1 h (by omega)
 rw [nat_mask1,show (((1:Nat):Int))=1 by rfl] at ha
 by_cases hz:z % 2=1
 ·have hx:=Lib.i64_not (z / 2) (by omega)
  rw [show (((z / 2:Nat):Int))=(z:Int) / 2 by omega] at hx
  rw [hz] at ha
  have ha':bits .and .u64 (z:Int) 1=1:=ha
  have H:Hid (unzz z=-((z:Int) / 2) - 1):=by show _=_;unfold unzz;rw [if_pos hz];omega
  clear ha
  go_enter Tryz.func134,Tryz.ntmps134
  go_wp2
  go_ret
  exact ⟨ret_int H.out.symm,rfl⟩
 ·have hz0:z % 2=0:=by omega
  rw [hz0] at ha
  have ha':bits .and .u64 (z:Int) 1=0:=ha
  have H:Hid (unzz z=(z:Int) / 2):=by show _=_;unfold unzz;rw [if_neg hz];omega
  clear ha
  go_enter Tryz.func134,Tryz.ntmps134
  go_wp2
  go_ret
  exact ⟨ret_int H.out.symm,rfl⟩
theorem or128:∀ x:Nat,x<256→x ||| 128=x % 128+128:=by decide
theorem bits_or128 (z:Nat):bits .or .u8 ((z:Int) % 256) 128=((z % 128+128:Nat):Int):=by
 have h:=u8_or_nat (z % 256) 128 (by omega) (by omega)
 rw [or128 _ (by omega),show (((128:Nat):Int))=128 by rfl] at h
 rw [show (z:Int) % 256=((z % 256:Nat):Int) by omega,h]
 omega
theorem digs_small (f z:Nat) (h:z<128):digs f z=[UInt8.ofNat z]:=by
 cases f with
 | zero=>rfl
 | succ f=>simp only [digs,if_pos h]
theorem digs_more (k z:Nat) (hk:k<9) (h:¬ z<128):digs (9 - k) z=UInt8.ofNat (z % 128+128) :: digs (9 - (k+1)) (z / 128):=by
 rw [show 9 - k=(9 - (k+1))+1 by omega]
 simp only [digs,if_neg h]
theorem pow_down (k z:Nat) (hk:k<9) (h:z<2*128 ^ (9 - k)):z / 128<2*128 ^ (9 - (k+1)):=by
 rw [show 9 - k=(9 - (k+1))+1 by omega,Nat.pow_succ] at h
 omega
structure IntAt (w:World) (B:Nat) (v0:Value) (t:List UInt8) (k z:Nat) (m:List UInt8) (v:Value) (wr:World):Prop where
 row:Row wr B v m
 len:m.length≤t.length
 all:m++digs (9 - k) z=t
 small:z<2*128 ^ (9 - k)
 below:Below B w wr
 grow:Grow w wr v0 v
theorem IntAt.next {w:World} {B:Nat} {v0:Value} {t:List UInt8} {k z:Nat} {m:List UInt8} {v:Value} {wr:World} (h:IntAt w B v0 t k z m v wr) (hB:B≤w.heap.size) (hk:k<9) (hz:¬ z<128) (x:Int) (hx:x=((z % 128+128:Nat):Int)) (O:Obj) (v':Value) (w2:World)
  (hown:w2.ownsRow B 5 1 v' (m.length+1) (u8c m++[.int .u8 x])) (hg:(wr.alloc O).grownBy w2 v.ownBlock) (hat:v'.ownBlock=v.ownBlock∨v'.ownBlock=some (wr.alloc O).heap.size):IntAt w B v0 t (k+1) (z / 128) (m++[UInt8.ofNat (z % 128+128)]) v' w2:=by
 have hsz:=h.below.size
 have hd:=digs_more k z hk hz
 have hall:=h.all
 rw [hd] at hall
 refine ⟨?_,?_,?_,pow_down k z hk h.small,?_,h.grow.step O hg hat⟩
 ·refine Row.of (l:=m) (m:=[UInt8.ofNat (z % 128+128)]) ?_
  have e:u8c [UInt8.ofNat (z % 128+128)]=[.int .u8 x]:=by
   subst hx
   simp [u8c,toNat_u8 (z % 128+128) (by omega)]
   omega
  rw [e]
  exact hown
 ·rw [← hall];simp
 ·rw [← hall];simp
 ·exact (h.below.alloc (by omega) O).grown hg (by simp;omega) h.row.own
theorem IntAt.last {w:World} {B:Nat} {v0:Value} {t:List UInt8} {k z:Nat} {m:List UInt8} {v:Value} {wr:World} (h:IntAt w B v0 t k z m v wr) (hB:B≤w.heap.size) (hz:z<128) (O:Obj) (v':Value) (w2:World)
  (hown:w2.ownsRow B 5 1 v' (m.length+1) (u8c m++[.int .u8 (z:Int)])) (hg:(wr.alloc O).grownBy w2 v.ownBlock) (hat:v'.ownBlock=v.ownBlock∨v'.ownBlock=some (wr.alloc O).heap.size):Row w2 B v' t∧Below B w w2∧Grow w w2 v0 v':=by
 have hsz:=h.below.size
 have hall:=h.all
 rw [digs_small _ z hz] at hall
 refine ⟨?_,(h.below.alloc (by omega) O).grown hg (by simp;omega) h.row.own,h.grow.step O hg hat⟩
 rw [← hall]
 refine Row.of (l:=m) (m:=[UInt8.ofNat z]) ?_
 have e:u8c [UInt8.ofNat z]=[.int .u8 (z:Int)]:=by
  simp [u8c,toNat_u8 z (by omega)]
 rw [e]
 exact hown
theorem appendInt_any {w:World} {B:Nat} {v:Value} {l:List UInt8} (h:Row w B v l) (hB:B≤w.heap.size) (hl:l.length≤1000000000000) (n:Int) (hn:I64 n) :
  Calls Tryz.prog 139 #[v,.int .i64 n] w fun e w'=>∃ v',e=.returned v'∧Row w' B v' (l++intL n)∧Below B w w'∧Grow w w' v v':=by
 obtain ⟨i0,hi0,hz0,hz1,hz2⟩:=info5
 have hz:=zz_lt n hn.1 hn.2
 have H0:Hid (IntAt w B v (l++intL n) 0 (zz n) l v w):=⟨h,by simp,rfl,hz,.refl _ _,.refl _ _⟩
 have htl:Hid ((l++intL n).length≤1000000000010):=by show _≤_;have:=intL_length n;simp;omega
 clear h
 go_enter Tryz.func139,Tryz.ntmps139
 go_wp2_with (go_at_call 172;refine (folded_any n _ hn).mono ?_;rintro e w' ⟨rfl,rfl⟩)
 go_loopg [0,5,8] 9 (fun kx s0 s5 s8 wr=>∃ (k z:Nat) (sv:Value) (m:List UInt8),k≤9∧9 - k≤kx∧s8=.int .i64 k∧s5=.int .u64 z∧sv=s0∧Hid (IntAt w B v (l++intL n) k z m sv wr))
 case atStart=>exact ⟨0,_,_,l,by omega,by omega,rfl,rfl,rfl,H0⟩
 case round =>
  obtain ⟨k,z,sv,m,hk,hkx,rfl,rfl,rfl,HD⟩:=hrel
  have hml:m.length≤1000000000010:=Nat.le_trans HD.out.len htl.out
  have hwr:B≤wr.heap.size:=Nat.le_trans hB HD.out.below.size
  have HR:Hid (∀ O,(wr.alloc O).ownsRow B 5 1 sv m.length (u8c m)):=fun O=>HD.out.row.alloc O
  clear H0 htl
  by_cases hlt:k<9
  ·have hlt':(k:Int)<9:=by omega
   by_cases hzs:z<128
   ·have hzs':(z:Int)<128:=by omega
    go_wp2_with (at_builtin;refine wpList_append_own_at _ rfl _ _ 46 rfl B 5 i0 _ 1 1 Tryz.underlying46 hi0 hz0 hz1 hz2 rfl (by decide) _ m.length (u8c m) rfl (HR.out _) ⟨wr.heap.size,0,none⟩ 1 1 [.int .u8 (z:Int)] rfl rfl (one_cell rfl) (by simp [Value.oneCell']) (by unfold maxLen;omega) (by omega) (by simp;omega) ?_;intro v' w2 hown2 hg2 _ hat)
    have HF:=HD.out.last hB hzs _ v' w2 hown2 hg2 hat
    go_ret
    exact ⟨_,rfl,HF.1,HF.2⟩
   ·have hzs':¬ (z:Int)<128:=by omega
    have hor:=bits_or128 z
    generalize hX:((z % 128+128:Nat):Int)=X at hor
    go_wp2_with (at_builtin;refine wpList_append_own_at _ rfl _ _ 46 rfl B 5 i0 _ 1 1 Tryz.underlying46 hi0 hz0 hz1 hz2 rfl (by decide) _ m.length (u8c m) rfl (HR.out _) ⟨wr.heap.size,0,none⟩ 1 1 [.int .u8 X] rfl rfl (one_cell rfl) (by simp [Value.oneCell']) (by unfold maxLen;omega) (by omega) (by simp;omega) ?_;intro v' w2 hown2 hg2 _ hat)
    have HF:=HD.out.next hB hlt hzs X hX.symm _ v' w2 hown2 hg2 hat
    go_roundg (9 - (k+1))
    case measure=>omega
    case rel=>exact ⟨k+1,z / 128,v',_,by omega,Nat.le_refl _,by go_num,by go_num,rfl,HF⟩
  ·have hk9:k=9:=by omega
   have hzs:z<128:=by have:=HD.out.small;rw [hk9] at this;simp at this;omega
   have hlt':¬ (k:Int)<9:=by omega
   have hzs':(z:Int)<128:=by omega
   clear hk9
   go_wp2_with (at_builtin;refine wpList_append_own_at _ rfl _ _ 46 rfl B 5 i0 _ 1 1 Tryz.underlying46 hi0 hz0 hz1 hz2 rfl (by decide) _ m.length (u8c m) rfl (HR.out _) ⟨wr.heap.size,0,none⟩ 1 1 [.int .u8 (z:Int)] rfl rfl (one_cell rfl) (by simp [Value.oneCell']) (by unfold maxLen;omega) (by omega) (by simp;omega) ?_;intro v' w2 hown2 hg2 _ hat)
   have HF:=HD.out.last hB hzs _ v' w2 hown2 hg2 hat
   go_ret
   exact ⟨_,rfl,HF.1,HF.2⟩
def strOf (bs:List UInt8):ByteArray:=⟨bs.toArray⟩
theorem strOf_size (l:List UInt8):(strOf l).size=l.length:=by simp [strOf,ByteArray.size]
theorem strOf_data (l:List UInt8):(strOf l).data.toList=l:=by simp [strOf]
theorem strOfNums_u8 (bs:List UInt8):strOfNums (bs.map fun b=>(b.toNat:Int))=strOf bs:=by
 have e:bs.map (fun b:UInt8=>UInt8.ofNat ((b.toNat:Int).toNat))=bs:=by
  induction bs with
  | nil=>rfl
  | cons x r ih=>simp only [List.map_cons,ih];simp
 simp only [strOfNums,strOf,List.map_map,Function.comp_def,e]
theorem Row.conv {w:World} {B:Nat} {v:Value} {l:List UInt8} (h:Row w B v l):(convert 46 9 v).run Tryz.prog w=.ok (.string (strOf l)) w:=by
 obtain ⟨h1,h2⟩:=h
 rcases h2 with ⟨rfl,hn⟩ | ⟨g,cap,cur,rfl,hB,hg,hc,hm,hs,ht⟩
 ·have:l=[]:=List.eq_nil_of_length_eq_zero hn
  subst this
  exact run_convert_bytes_nil w 46 5 Tryz.underlying46 Tryz.underlying5 _ _ 9 Tryz.underlying9
 ·have:=run_convert_bytes_arg w 46 5 Tryz.underlying46 Tryz.underlying5 g 0 l.length cap (l.map fun b=>(b.toNat:Int)) (by simp) (fun i hi=>by
   have h1:(cur.toList.take (l.length*1))[i]?=(u8c l)[i]?:=by rw [ht]
   have h2:(u8c l)[i]?=some (.int .u8 (l[i].toNat:Int)):=by simp [u8c,hi]
   rw [h2,List.getElem?_take,if_pos (by omega)] at h1
   simp only [World.cell?,Nat.zero_add,hg]
   simpa [hi] using h1) 9 Tryz.underlying9
  rw [this,strOfNums_u8]
theorem Row.shape {w:World} {B:Nat} {v:Value} {l:List UInt8} (h:Row w B v l):∃ a cap,v=.slice a l.length cap:=by
 obtain ⟨h1,h2⟩:=h
 rcases h2 with ⟨rfl,hn⟩ | ⟨g,cap,cur,rfl,hB,hg,hc,hm,hs,ht⟩
 ·exact ⟨_,_,by rw [hn]⟩
 ·exact ⟨_,_,rfl⟩
theorem int_any (n:Int) (w:World) (hn:I64 n):Calls Tryz.prog 98 #[.int .i64 n] w fun e w'=>e=.returned (.string (strOf (intL n)))∧Below w.heap.size w w':=by
 have HC:=hid (appendInt_any (Row.nil w w.heap.size) (Nat.le_refl _) (by simp) n hn)
 go_enter Tryz.func98,Tryz.ntmps98
 go_wp2_with (go_at_call 139;refine HC.out.mono ?_;rintro e w1 ⟨v',rfl,hrow,hb,_⟩;rw [List.nil_append] at hrow;have hcv:=hrow.conv;obtain ⟨a,cap,hv⟩:=hrow.shape;rw [hv] at hcv ⊢)
 go_ret
 exact ⟨rfl,hb⟩
theorem rz_neg (n:Int) (h1:-9223372036854775808≤n) (h2:n<0):2*(-(n+1))+1=((zz n:Nat):Int):=by unfold zz;rw [if_pos h2];omega
theorem rz_pos (n:Int) (h2:¬ n<0):2*n=((zz n:Nat):Int):=by unfold zz;rw [if_neg h2];omega
theorem IntAt.lt64 {w:World} {B:Nat} {v0:Value} {t:List UInt8} {k z:Nat} {m:List UInt8} {v:Value} {wr:World} (h:IntAt w B v0 t k z m v wr):z<18446744073709551616:=by
 have h1:=h.small
 have h2:128 ^ (9 - k)≤128 ^ 9:=Nat.pow_le_pow_right (by omega) (by omega)
 have h3:(128:Nat) ^ 9=9223372036854775808:=by decide
 omega
end Go.Proofs.YtcffomhcmilcpaaGreat.W
