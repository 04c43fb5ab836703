/- The document's topic: the row of topics grows by one: one region,over any frame. -/
import Derived.Test.YtcffomhcmilcpaaGreatC44
import Derived.Test.YtcffomhcmilcpaaGreatC9
import Derived.Test.YtcffomhcmilcpaaGreatC10
import Derived.Test.YtcffomhcmilcpaaGreatC18
set_option maxRecDepth 100000
set_option maxHeartbeats 20000000
set_option linter.unusedVariables false
set_option linter.unusedSimpArgs false
namespace Go.Proofs.YtcffomhcmilcpaaGreat
open Go.RowKit Go.Maps
section
variable {w w3:World} {L:Nat→Prop} {q:Nat} {vb vt vp ve v2:Value} {ps:List (Value × Pt)} {I:Im}
theorem DC.swapT (h:DC w L q vb vt vp ve ps I) {l2:List Tp} (hs:w.heap.size≤w3.heap.size) (hoth:∀ k,k<w.heap.size→k≠q→vt.ownBlock≠some k→w3.heap[k]?=w.heap[k]?)
  (hq:w3.heap[q]?=some (.cells #[.int .i64 I.applied,vb,v2,vp,ve] 32)) (hrow:w3.ownsRow 0 80 3 v2 l2.length (flatT l2)) (hnew:∀ k,v2.ownBlock=some k→vt.ownBlock=some k∨w.heap.size≤k) (hok:ImOk { I with tops:=l2 }):DC w3 L q vb v2 vp ve ps { I with tops:=l2 }:=by
 refine ⟨hq,row_kept h.brs (fun k hk=>hoth k (row_lt h.brs hk) (fun e=>h.ne_q.1 (by rw [← e];exact hk)) (fun e=>(h.ne_t e).1 hk)),hrow,row_kept h.parts (fun k hk=>hoth k (row_lt h.parts hk) (fun e=>h.ne_q.2.2.1 (by rw [← e];exact hk)) (h.ne_p hk).2.1),row_kept h.eps (fun k hk=>hoth k (row_lt h.eps hk) (fun e=>h.ne_q.2.2.2 (by rw [← e];exact hk)) (h.ne_e hk).2.1),fun x hx=>?_,h.abs,fun k hk=>⟨Nat.lt_of_lt_of_le (h.lists k hk).1 hs,?_⟩,hok⟩
 ·obtain ⟨h1,h2⟩:=h.each x hx
  exact ⟨h1.kept h2 (fun k hk=>hoth k (h.lists k hk).1 (fun e=>(h.lists k hk).2 (.inl e)) (fun e=>(h.lists k hk).2 (.inr (.inr (.inl e))))) hs,h2⟩
 ·rintro (e | e | e | e | e)
  ·exact (h.lists k hk).2 (.inl e)
  ·exact (h.lists k hk).2 (.inr (.inl e))
  ·rcases hnew k e with e | e
   ·exact (h.lists k hk).2 (.inr (.inr (.inl e)))
   ·have:=(h.lists k hk).1;omega
  ·exact (h.lists k hk).2 (.inr (.inr (.inr (.inl e))))
  ·exact (h.lists k hk).2 (.inr (.inr (.inr (.inr e))))
end
@[reducible] def p22x0:Oper:={ dst:=some 140,op:=Op.move (Operand.tmp 0),type:=27,pos:= "ref.go:162",after:=#[],guard:=none }
@[reducible] def p22x1:Oper:={ dst:=some 141,op:=Op.move (Operand.tmp 0),type:=27,pos:= "ref.go:162",after:=#[],guard:=none }
@[reducible] def p22x2:Oper:={ dst:=some 142,op:=Op.nilCheck (Operand.tmp 141),type:=0,pos:= "ref.go:162",after:=#[{ on:=1,ground:=Ground.data }],guard:=none }
@[reducible] def p22x3:Oper:={ dst:=some 143,op:=Op.fieldAddr 32 (Operand.tmp 142) 2,type:=0,pos:= "ref.go:162",after:=#[{ on:=2,ground:=Ground.data }],guard:=none }
@[reducible] def p22x4:Oper:={ dst:=some 144,op:=Op.load 29 (Operand.tmp 143),type:=29,pos:= "ref.go:162",after:=#[{ on:=3,ground:=Ground.data }],guard:=none }
@[reducible] def p22x5:Oper:={ dst:=some 145,op:=Op.fieldAddr 34 (Operand.tmp 3) 5,type:=0,pos:= "ref.go:162",after:=#[],guard:=none }
@[reducible] def p22x6:Oper:={ dst:=some 146,op:=Op.load 9 (Operand.tmp 145),type:=9,pos:= "ref.go:162",after:=#[{ on:=5,ground:=Ground.data }],guard:=none }
@[reducible] def p22x7:Oper:={ dst:=some 147,op:=Op.move (Operand.tmp 9),type:=3,pos:= "ref.go:162",after:=#[],guard:=none }
@[reducible] def p22x8:Oper:={ dst:=some 148,op:=Op.fieldAddr 34 (Operand.tmp 3) 1,type:=0,pos:= "ref.go:162",after:=#[],guard:=none }
@[reducible] def p22x9:Oper:={ dst:=some 149,op:=Op.load 3 (Operand.tmp 148),type:=3,pos:= "ref.go:162",after:=#[{ on:=8,ground:=Ground.data }],guard:=none }
@[reducible] def p22x10:Oper:={ dst:=some 150,op:=Op.build 80 #[(0,Operand.tmp 146),(1,Operand.tmp 147),(2,Operand.tmp 149)],type:=80,pos:= "ref.go:162",after:=#[{ on:=6,ground:=Ground.data },{ on:=7,ground:=Ground.data },{ on:=9,ground:=Ground.data }],guard:=none }
@[reducible] def p22x11:Oper:={ dst:=some 151,op:=Op.buildSlice 29 1 #[(0,Operand.tmp 150)],type:=29,pos:= "ref.go:162",after:=#[{ on:=10,ground:=Ground.data }],guard:=none }
@[reducible] def p22x12:Oper:={ dst:=some 152,op:=Op.call ({ callee:=Callee.builtin Builtin.append,args:=#[Operand.tmp 144,Operand.tmp 151],argTypes:=#[29,29] }),type:=29,pos:= "ref.go:162",after:=#[{ on:=4,ground:=Ground.data },{ on:=11,ground:=Ground.data }],guard:=none }
@[reducible] def p22x13:Oper:={ dst:=some 153,op:=Op.nilCheck (Operand.tmp 140),type:=0,pos:= "ref.go:162",after:=#[{ on:=0,ground:=Ground.data },{ on:=0,ground:=Ground.phase },{ on:=1,ground:=Ground.phase },{ on:=2,ground:=Ground.phase },{ on:=3,ground:=Ground.phase },{ on:=4,ground:=Ground.phase },{ on:=5,ground:=Ground.phase },{ on:=6,ground:=Ground.phase },{ on:=7,ground:=Ground.phase },{ on:=8,ground:=Ground.phase },{ on:=9,ground:=Ground.phase },{ on:=10,ground:=Ground.phase },{ on:=11,ground:=Ground.phase },{ on:=12,ground:=Ground.phase }],guard:=none }
@[reducible] def p22x14:Oper:={ dst:=some 154,op:=Op.fieldAddr 32 (Operand.tmp 153) 2,type:=0,pos:= "ref.go:162",after:=#[{ on:=13,ground:=Ground.data },{ on:=0,ground:=Ground.phase },{ on:=1,ground:=Ground.phase },{ on:=2,ground:=Ground.phase },{ on:=3,ground:=Ground.phase },{ on:=4,ground:=Ground.phase },{ on:=5,ground:=Ground.phase },{ on:=6,ground:=Ground.phase },{ on:=7,ground:=Ground.phase },{ on:=8,ground:=Ground.phase },{ on:=9,ground:=Ground.phase },{ on:=10,ground:=Ground.phase },{ on:=11,ground:=Ground.phase },{ on:=12,ground:=Ground.phase }],guard:=none }
@[reducible] def p22x15:Oper:={ dst:=none,op:=Op.store 29 (Operand.tmp 154) (Operand.tmp 152),type:=0,pos:= "ref.go:162",after:=#[{ on:=14,ground:=Ground.data },{ on:=12,ground:=Ground.data },{ on:=12,ground:=Ground.chain },{ on:=0,ground:=Ground.phase },{ on:=1,ground:=Ground.phase },{ on:=2,ground:=Ground.phase },{ on:=3,ground:=Ground.phase },{ on:=4,ground:=Ground.phase },{ on:=5,ground:=Ground.phase },{ on:=6,ground:=Ground.phase },{ on:=7,ground:=Ground.phase },{ on:=8,ground:=Ground.phase },{ on:=9,ground:=Ground.phase },{ on:=10,ground:=Ground.phase },{ on:=11,ground:=Ground.phase },{ on:=12,ground:=Ground.phase }],guard:=none }
@[reducible] def ps22:Array Oper:=#[p22x0,p22x1,p22x2,p22x3,p22x4,p22x5,p22x6,p22x7,p22x8,p22x9,p22x10,p22x11,p22x12,p22x13,p22x14,p22x15]
theorem info80:∃ i,Tryz.prog.info? 80=some i∧i.zero=some (.agg #[.string ByteArray.empty,.int .i64 0,.int .i64 0])∧i.size=3∧i.bytes=32:=⟨_,rfl,rfl,rfl,rfl⟩
theorem region22 {Q:Exit→Act→World→Prop} (a:Act) {W:World} {L:Nat→Prop} {q:Nat} {oa:Option Addr} {cap:Nat} {vb vp ve:Value} {ps:List (Value × Pt)} {I:Im} (h:DC W L q vb (.slice oa I.tops.length cap) vp ve ps I) (x:Nat) (rk ra rb rc rd first:Int) (rn rt:ByteArray) (la:Option Addr) (ll lc:Nat) (hx:W.heap[x]?=some (.cells (RV rk ra rb rc rd rn rt la ll lc) 34)) (hxo:¬ OwnD q vb (.slice oa I.tops.length cap) vp ve x) (hok:ImOk { I with tops:=I.tops++[(⟨rn,first,ra⟩:Tp)] })
  (h0:a.eval (.tmp 0)=.pointer (some ⟨q,0,none⟩)) (h3:a.eval (.tmp 3)=.pointer (some ⟨x,0,none⟩)) (h9:a.eval (.tmp 9)=.int .i64 first) (hsz:a.tmps.size=156)
  (hQ:∀ (g c:Nat) (W3:World),DC W3 L q vb (.slice (some ⟨g,0,none⟩) (I.tops.length+1) c) vp ve ps { I with tops:=I.tops++[(⟨rn,first,ra⟩:Tp)] }→((Value.slice oa I.tops.length cap).ownBlock=some g∨W.heap.size≤g)→Keeps (OwnD q vb (.slice oa I.tops.length cap) vp ve) W W3→Q .normal ((((((((((((((((a.put (some 140) (.pointer (some ⟨q,0,none⟩))).put (some 141) (.pointer (some ⟨q,0,none⟩))).put (some 142) (.pointer (some ⟨q,0,none⟩))).put (some 143) (.pointer (some ⟨q,2,none⟩))).put (some 144) (.slice oa I.tops.length cap)).put (some 145) (.pointer (some ⟨x,5,none⟩))).put (some 146) (.string rn)).put (some 147) (.int .i64 first)).put (some 148) (.pointer (some ⟨x,1,none⟩))).put (some 149) (.int .i64 ra)).put (some 150) (.agg #[.string rn,.int .i64 first,.int .i64 ra])).put (some 151) (.slice (some ⟨W.heap.size,0,none⟩) 1 1)).put (some 152) (.slice (some ⟨g,0,none⟩) (I.tops.length+1) c)).put (some 153) (.pointer (some ⟨q,0,none⟩))).put (some 154) (.pointer (some ⟨q,2,none⟩))).put none undef) W3) :
  (Code.region 22 ps22 true).wp Tryz.prog Q a W:=by
 obtain ⟨j0,hj0,hz0,hz1,hz2⟩:=info80
 have hfew:=h.ok.topsFew
 have hqlt:q<W.heap.size:=h.lt (.inl rfl)
 have hxlt:x<W.heap.size:=(Array.getElem?_eq_some_iff.1 hx).1
 have hbA:Below W.heap.size W ((W.alloc (.cells #[.string rn,.int .i64 first,.int .i64 ra] 80)).drew):=((Below.refl _ _).alloc (Nat.le_refl _) _).drew
 have HROW:((W.alloc (.cells #[.string rn,.int .i64 first,.int .i64 ra] 80)).drew).ownsRow 0 80 3 (.slice oa I.tops.length cap) I.tops.length (flatT I.tops):=(h.under hbA).tops
 have HNEW:∀ j u,([.string rn,.int .i64 first,.int .i64 ra]:List Value)[j]?=some u→((W.alloc (.cells #[.string rn,.int .i64 first,.int .i64 ra] 80)).drew).cell? ((⟨W.heap.size,0,none⟩:Addr).add j)=some u:=fun j u hu=>by
  rw [add_at,Nat.zero_add]
  refine cell_blk (w:=(W.alloc (.cells #[.string rn,.int .i64 first,.int .i64 ra] 80)).drew) (heap_alloc_new W (.cells #[.string rn,.int .i64 first,.int .i64 ra] 80)) j u ?_
  rw [← hu]
  simp
 have HONE:∀ u∈([.string rn,.int .i64 first,.int .i64 ra]:List Value),u.oneCell'=true:=fun u hu=>by
  simp at hu
  rcases hu with rfl | rfl | rfl <;> rfl
 have HSZ:((W.alloc (.cells #[.string rn,.int .i64 first,.int .i64 ra] 80)).drew).heap.size=W.heap.size+1:=by simp
 have HG:∀ (w5:World) (g c:Nat),w5.ownsRow 0 80 3 (.slice (some ⟨g,0,none⟩) (I.tops.length+1) c) (I.tops.length+1) (flatT I.tops++[.string rn,.int .i64 first,.int .i64 ra])→((W.alloc (.cells #[.string rn,.int .i64 first,.int .i64 ra] 80)).drew).grownBy w5 (Value.slice oa I.tops.length cap).ownBlock→((Value.slice oa I.tops.length cap).ownBlock=some g∨g=W.heap.size+1) →
   w5.heap[q]?=some (.cells #[.int .i64 I.applied,vb,.slice oa I.tops.length cap,vp,ve] 32)∧w5.heap[x]?=some (.cells (RV rk ra rb rc rd rn rt la ll lc) 34)∧DC (w5.setCell ⟨q,2,none⟩ (.slice (some ⟨g,0,none⟩) (I.tops.length+1) c)) L q vb (.slice (some ⟨g,0,none⟩) (I.tops.length+1) c) vp ve ps { I with tops:=I.tops++[(⟨rn,first,ra⟩:Tp)] }∧Keeps (OwnD q vb (.slice oa I.tops.length cap) vp ve) W (w5.setCell ⟨q,2,none⟩ (.slice (some ⟨g,0,none⟩) (I.tops.length+1) c)):=fun w5 g c hown hg hat=>by
  have hs5:=hg.size
  have hblk:∀ k,k<W.heap.size→(Value.slice oa I.tops.length cap).ownBlock≠some k→w5.heap[k]?=W.heap[k]?:=fun k hk hne=>by
   rw [hg.block k (by rw [HSZ];omega) (fun e=>hne e.symm),hbA.block k hk]
  have hqc:=(hblk q hqlt h.ne_q.2.1).trans h.cells
  have hnew:∀ k,(Value.slice (some ⟨g,0,none⟩) (I.tops.length+1) c).ownBlock=some k→(Value.slice oa I.tops.length cap).ownBlock=some k∨W.heap.size≤k:=fun k hk=>by
   cases hk
   rcases hat with e | e
   ·exact .inl e
   ·exact .inr (by show W.heap.size≤g;omega)
  have hoth:∀ k,k<W.heap.size→k≠q→(Value.slice oa I.tops.length cap).ownBlock≠some k→(w5.setCell ⟨q,2,none⟩ (.slice (some ⟨g,0,none⟩) (I.tops.length+1) c)).heap[k]?=W.heap[k]?:=fun k hk hkq hke=>by
   rw [Below.heap_setCell _ _ _ _ hkq];exact hblk k hk hke
  refine ⟨hqc,(hblk x hxlt (fun e=>hxo (.inr (.inr (.inl e))))).trans hx,h.swapT (by simp;omega) hoth (set_box hqc) ?_ hnew hok,⟨hg.os,hg.tape,hg.output,by simp;omega,fun k hk hS=>hoth k hk (fun e=>hS (.inl e)) (fun e=>hS (.inr (.inr (.inl e))))⟩⟩
  have hqv:(Value.slice (some ⟨g,0,none⟩) (I.tops.length+1) c).ownBlock≠some q:=fun e=>by
   rcases hnew q e with e | e
   ·exact h.ne_q.2.1 e
   ·omega
  have h3:=row_kept hown (w1:=w5.setCell ⟨q,2,none⟩ (.slice (some ⟨g,0,none⟩) (I.tops.length+1) c)) (fun k hk=>Below.heap_setCell _ _ _ _ (fun e=>hqv (by rw [hk,e])))
  rw [List.length_append,flatT_append]
  exact h3
 have HS0:W.drew.heap[q]?=some (.cells #[.int .i64 I.applied,vb,.slice oa I.tops.length cap,vp,ve] 32)∧W.drew.heap[x]?=some (.cells (RV rk ra rb rc rd rn rt la ll lc) 34):=⟨h.cells,hx⟩
 have HDD:W.drew.alloc (.cells #[.string rn,.int .i64 first,.int .i64 ra] 80)=(W.alloc (.cells #[.string rn,.int .i64 first,.int .i64 ra] 80)).drew:=rfl
 have HS1:(W.drew.alloc (.cells #[.string rn,.int .i64 first,.int .i64 ra] 80)).heap[q]?=some (.cells #[.int .i64 I.applied,vb,.slice oa I.tops.length cap,vp,ve] 32)∧(W.drew.alloc (.cells #[.string rn,.int .i64 first,.int .i64 ra] 80)).heap[x]?=some (.cells (RV rk ra rb rc rd rn rt la ll lc) 34):=⟨(hbA.block q hqlt).trans h.cells,(hbA.block x hxlt).trans hx⟩
 clear hbA h hx hxo hok
 generalize hFM:flatT I.tops=FM at *
 refine wp_region_noPanic ?_
 refine region_last (fun V=>V.heap[q]?=some (.cells #[.int .i64 I.applied,vb,.slice oa I.tops.length cap,vp,ve] 32)∧V.heap[x]?=some (.cells (RV rk ra rb rc rd rn rt la ll lc) 34)) 15 (by kernel_rfl) ?_
 refine ButLast.take (oi:=p22x0) 0 (.pointer (some ⟨q,0,none⟩)) [14,13] (by rfl) (by kernel_rfl) (by kernel_rfl) (by kernel_rfl) (by kernel_rfl) (by kernel_rfl) (fun c a w h=>h) (yields_move (by rfl) 0 (by rfl) h0) HS0 ?_
 refine ButLast.take (oi:=p22x1) 1 (.pointer (some ⟨q,0,none⟩)) [12,4,3,2] (by rfl) (by kernel_rfl) (by kernel_rfl) (by kernel_rfl) (by kernel_rfl) (by kernel_rfl) (fun c a w h=>h) (yields_move (by rfl) 0 (by rfl) (by simp [put_eval,put_size,hsz,h0,h3,h9])) HS0 ?_
 refine ButLast.take (oi:=p22x2) 2 (.pointer (some ⟨q,0,none⟩)) [12,4,3] (by rfl) (by kernel_rfl) (by kernel_rfl) (by kernel_rfl) (by kernel_rfl) (by kernel_rfl) (fun c a w h=>h) (yields_nil (by rfl) 141 q (by rfl) (by simp [put_eval,put_size,hsz,h0,h3,h9])) HS0 ?_
 refine ButLast.take (oi:=p22x3) 3 (.pointer (some ⟨q,2,none⟩)) [12,4] (by rfl) (by kernel_rfl) (by kernel_rfl) (by kernel_rfl) (by kernel_rfl) (by kernel_rfl) (fun c a w h=>h) (yields_field32_2 (by rfl) 142 q (by rfl) (by simp [put_eval,put_size,hsz,h0,h3,h9])) HS0 ?_
 refine ButLast.take (oi:=p22x4) 4 (.slice oa I.tops.length cap) [12] (by rfl) (by kernel_rfl) (by kernel_rfl) (by kernel_rfl) (by kernel_rfl) (by kernel_rfl) (fun c a w h=>h) (yields_load29 (by rfl) 143 q 2 (by rfl) (by simp [put_eval,put_size,hsz,h0,h3,h9]) _ (fun V hV=>cell_blk hV.1 2 _ rfl)) HS0 ?_
 refine ButLast.take (oi:=p22x5) 5 (.pointer (some ⟨x,5,none⟩)) [12,11,10,6] (by rfl) (by kernel_rfl) (by kernel_rfl) (by kernel_rfl) (by kernel_rfl) (by kernel_rfl) (fun c a w h=>h) (yields_field34_5 (by rfl) 3 x (by rfl) (by simp [put_eval,put_size,hsz,h0,h3,h9])) HS0 ?_
 refine ButLast.take (oi:=p22x6) 6 (.string rn) [12,11,10] (by rfl) (by kernel_rfl) (by kernel_rfl) (by kernel_rfl) (by kernel_rfl) (by kernel_rfl) (fun c a w h=>h) (yields_load9 (by rfl) 145 x 5 (by rfl) (by simp [put_eval,put_size,hsz,h0,h3,h9]) _ (fun V hV=>cell_blk hV.2 5 _ rfl)) HS0 ?_
 refine ButLast.take (oi:=p22x7) 7 (.int .i64 first) [12,11,10] (by rfl) (by kernel_rfl) (by kernel_rfl) (by kernel_rfl) (by kernel_rfl) (by kernel_rfl) (fun c a w h=>h) (yields_move (by rfl) 9 (by rfl) (by simp [put_eval,put_size,hsz,h0,h3,h9])) HS0 ?_
 refine ButLast.take (oi:=p22x8) 8 (.pointer (some ⟨x,1,none⟩)) [12,11,10,9] (by rfl) (by kernel_rfl) (by kernel_rfl) (by kernel_rfl) (by kernel_rfl) (by kernel_rfl) (fun c a w h=>h) (yields_field34_1 (by rfl) 3 x (by rfl) (by simp [put_eval,put_size,hsz,h0,h3,h9])) HS0 ?_
 refine ButLast.take (oi:=p22x9) 9 (.int .i64 ra) [12,11,10] (by rfl) (by kernel_rfl) (by kernel_rfl) (by kernel_rfl) (by kernel_rfl) (by kernel_rfl) (fun c a w h=>h) (yields_load3 (by rfl) 148 x 1 (by rfl) (by simp [put_eval,put_size,hsz,h0,h3,h9]) _ (fun V hV=>cell_blk hV.2 1 _ rfl)) HS0 ?_
 refine ButLast.take (oi:=p22x10) 10 (.agg #[.string rn,.int .i64 first,.int .i64 ra]) [12,11] (by rfl) (by kernel_rfl) (by kernel_rfl) (by kernel_rfl) (by kernel_rfl) (by kernel_rfl) (fun c a w h=>h) (yields_build80 (by rfl) 146 147 149 rn first ra (by rfl) (by simp [put_eval,put_size,hsz,h0,h3,h9]) (by simp [put_eval,put_size,hsz,h0,h3,h9]) (by simp [put_eval,put_size,hsz,h0,h3,h9])) HS0 ?_
 refine ButLast.one (o:=p22x11) 11 (by kernel_rfl) (by rfl) (fun K hK=>?_)
 refine step_one29 (by rfl) 150 (by rfl) rn first ra (by simp [put_eval,put_size,hsz,h0,h3,h9]) ?_
 refine hK.out _ _ (fun _=>HS1) ?_
 clear hK K
 rw [HDD]
 refine ButLast.one (o:=p22x12) 12 (by kernel_rfl) (by rfl) (fun K hK=>?_)
 refine step_append_lies _ (by rfl) (.tmp 144) (.tmp 151) 29 (by rfl) 0 80 j0 _ 3 32 Tryz.underlying29 hj0 hz0 hz1 hz2 rfl (by decide) (.slice oa I.tops.length cap) I.tops.length FM (by simp [put_eval,put_size,hsz,h0,h3,h9]) HROW ⟨W.heap.size,0,none⟩ 1 1 [.string rn,.int .i64 first,.int .i64 ra] (by simp [put_eval,put_size,hsz,h0,h3,h9]) rfl HNEW HONE (by decide) (by unfold maxLen;omega) (by omega) (Nat.zero_le _) (W.heap.size+1) HSZ ?_
 intro g c w5 hown5 hg5 hat5 hlt5
 obtain ⟨f1,f2,f0,f3⟩:=HG w5 g c hown5 hg5 hat5
 have HS5:w5.heap[q]?=some (.cells #[.int .i64 I.applied,vb,.slice oa I.tops.length cap,vp,ve] 32)∧w5.heap[x]?=some (.cells (RV rk ra rb rc rd rn rt la ll lc) 34):=⟨f1,f2⟩
 refine hK.out _ _ (fun _=>HS5) ?_
 clear hK K
 refine ButLast.take (oi:=p22x13) 13 (.pointer (some ⟨q,0,none⟩)) [14] (by rfl) (by kernel_rfl) (by kernel_rfl) (by kernel_rfl) (by kernel_rfl) (by kernel_rfl) (fun c a w h=>h) (yields_nil (by rfl) 140 q (by rfl) (by simp [put_eval,put_size,hsz,h0,h3,h9])) HS5 ?_
 refine ButLast.take (oi:=p22x14) 14 (.pointer (some ⟨q,2,none⟩)) [] (by rfl) (by kernel_rfl) (by kernel_rfl) (by kernel_rfl) (by kernel_rfl) (by kernel_rfl) (fun c a w h=>h) (yields_field32_2 (by rfl) 153 q (by rfl) (by simp [put_eval,put_size,hsz,h0,h3,h9])) HS5 ?_
 have u0:=cell_blk f1 2 _ rfl
 have u1:=frz_blk f1 2
 refine ButLast.store29 (o:=p22x15) 15 (by kernel_rfl) (by rfl) (by rfl) 154 152 (by rfl) q 2 g (I.tops.length+1) c (by simp [put_eval,put_size,hsz,h0,h3,h9]) (by simp [put_eval,put_size,hsz,h0,h3,h9]) (.slice oa I.tops.length cap) u0 u1 (fun h=>absurd rfl h) (ButLast.done (by kernel_rfl) ?_)
 exact NoPanic.normal (hQ g c _ f0 (hat5.imp (fun e=>e) (fun e=>by omega)) f3)
section
variable {w w3:World} {L:Nat→Prop} {q:Nat} {vb vt vp ve v2:Value} {ps:List (Value × Pt)} {I:Im}
theorem DC.swapP (h:DC w L q vb vt vp ve ps I) {X:Nat→Prop} {v:Value} {p:Pt} (hs:w.heap.size≤w3.heap.size) (hoth:∀ k,k<w.heap.size→k≠q→vp.ownBlock≠some k→w3.heap[k]?=w.heap[k]?)
  (hq:w3.heap[q]?=some (.cells #[.int .i64 I.applied,vb,vt,v2,ve] 32)) (hrow:w3.ownsRow 0 54 9 v2 (ps.length+1) (flatP (ps++[(v,p)]))) (hnew:∀ k,v2.ownBlock=some k→vp.ownBlock=some k∨w.heap.size≤k)
  (hpm:PartM w3 v p) (hX:InP X v p) (hXl:∀ k,X k→k<w3.heap.size∧¬ OwnD q vb vt v2 ve k) (hok:ImOk { I with parts:=I.parts++[p] }):DC w3 (fun k=>L k∨X k) q vb vt v2 ve (ps++[(v,p)]) { I with parts:=I.parts++[p] }:=by
 refine ⟨hq,row_kept h.brs (fun k hk=>hoth k (row_lt h.brs hk) (fun e=>h.ne_q.1 (by rw [← e];exact hk)) (h.ne_b hk).2.1),row_kept h.tops (fun k hk=>hoth k (row_lt h.tops hk) (fun e=>h.ne_q.2.1 (by rw [← e];exact hk)) (h.ne_t hk).2.1),by rw [List.length_append];exact hrow,row_kept h.eps (fun k hk=>hoth k (row_lt h.eps hk) (fun e=>h.ne_q.2.2.2 (by rw [← e];exact hk)) (h.ne_e hk).2.2),fun x hx=>?_,?_,fun k hk=>?_,hok⟩
 ·rcases List.mem_append.1 hx with hx | hx
  ·obtain ⟨h1,h2⟩:=h.each x hx
   exact ⟨h1.kept h2 (fun k hk=>hoth k (h.lists k hk).1 (fun e=>(h.lists k hk).2 (.inl e)) (fun e=>(h.lists k hk).2 (.inr (.inr (.inr (.inl e)))))) hs,h2.mono fun k hk=>.inl hk⟩
  ·simp at hx
   subst hx
   exact ⟨hpm,hX.mono fun k hk=>.inr hk⟩
 ·simp [h.abs]
 ·rcases hk with hk | hk
  ·refine ⟨Nat.lt_of_lt_of_le (h.lists k hk).1 hs,?_⟩
   rintro (e | e | e | e | e)
   ·exact (h.lists k hk).2 (.inl e)
   ·exact (h.lists k hk).2 (.inr (.inl e))
   ·exact (h.lists k hk).2 (.inr (.inr (.inl e)))
   ·rcases hnew k e with e | e
    ·exact (h.lists k hk).2 (.inr (.inr (.inr (.inl e))))
    ·have:=(h.lists k hk).1;omega
   ·exact (h.lists k hk).2 (.inr (.inr (.inr (.inr e))))
  ·exact hXl k hk
end
@[reducible] def p21x0:Oper:={ dst:=some 118,op:=Op.move (Operand.tmp 0),type:=27,pos:= "ref.go:160",after:=#[],guard:=none }
@[reducible] def p21x1:Oper:={ dst:=some 119,op:=Op.move (Operand.tmp 0),type:=27,pos:= "ref.go:160",after:=#[],guard:=none }
@[reducible] def p21x2:Oper:={ dst:=some 120,op:=Op.nilCheck (Operand.tmp 119),type:=0,pos:= "ref.go:160",after:=#[{ on:=1,ground:=Ground.data }],guard:=none }
@[reducible] def p21x3:Oper:={ dst:=some 121,op:=Op.fieldAddr 32 (Operand.tmp 120) 3,type:=0,pos:= "ref.go:160",after:=#[{ on:=2,ground:=Ground.data }],guard:=none }
@[reducible] def p21x4:Oper:={ dst:=some 122,op:=Op.load 30 (Operand.tmp 121),type:=30,pos:= "ref.go:160",after:=#[{ on:=3,ground:=Ground.data }],guard:=none }
@[reducible] def p21x5:Oper:={ dst:=some 123,op:=Op.move (Operand.tmp 9),type:=3,pos:= "ref.go:160",after:=#[],guard:=none }
@[reducible] def p21x6:Oper:={ dst:=some 124,op:=Op.move (Operand.tmp 10),type:=3,pos:= "ref.go:160",after:=#[],guard:=none }
@[reducible] def p21x7:Oper:={ dst:=some 125,op:=Op.binOp BinOp.add 3 (Operand.tmp 123) (Operand.tmp 124) 3,type:=3,pos:= "ref.go:160",after:=#[{ on:=5,ground:=Ground.data },{ on:=6,ground:=Ground.data }],guard:=none }
@[reducible] def p21x8:Oper:={ dst:=some 126,op:=Op.move (Operand.tmp 11),type:=23,pos:= "ref.go:160",after:=#[],guard:=none }
@[reducible] def p21x9:Oper:={ dst:=some 127,op:=Op.indexAddr 23 (Operand.tmp 126) (Operand.const (Value.int IntKind.i64 0)),type:=0,pos:= "ref.go:160",after:=#[{ on:=8,ground:=Ground.data }],guard:=none }
@[reducible] def p21x10:Oper:={ dst:=some 128,op:=Op.load 3 (Operand.tmp 127),type:=3,pos:= "ref.go:160",after:=#[{ on:=9,ground:=Ground.data }],guard:=none }
@[reducible] def p21x11:Oper:={ dst:=some 129,op:=Op.buildSlice 23 0 #[],type:=23,pos:= "ref.go:160",after:=#[],guard:=none }
@[reducible] def p21x12:Oper:={ dst:=some 130,op:=Op.move (Operand.tmp 11),type:=23,pos:= "ref.go:160",after:=#[],guard:=none }
@[reducible] def p21x13:Oper:={ dst:=some 131,op:=Op.call ({ callee:=Callee.builtin Builtin.append,args:=#[Operand.tmp 129,Operand.tmp 130],argTypes:=#[23,23] }),type:=23,pos:= "ref.go:160",after:=#[{ on:=11,ground:=Ground.data },{ on:=12,ground:=Ground.data }],guard:=none }
@[reducible] def p21x14:Oper:={ dst:=some 132,op:=Op.move (Operand.tmp 11),type:=23,pos:= "ref.go:160",after:=#[],guard:=none }
@[reducible] def p21x15:Oper:={ dst:=some 133,op:=Op.fieldAddr 34 (Operand.tmp 3) 3,type:=0,pos:= "ref.go:160",after:=#[],guard:=none }
@[reducible] def p21x16:Oper:={ dst:=some 134,op:=Op.load 3 (Operand.tmp 133),type:=3,pos:= "ref.go:160",after:=#[{ on:=15,ground:=Ground.data }],guard:=none }
@[reducible] def p21x17:Oper:={ dst:=some 135,op:=Op.build 54 #[(0,Operand.tmp 125),(1,Operand.tmp 128),(2,Operand.const (Value.int IntKind.i64 1)),(3,Operand.const (Value.int IntKind.i64 1)),(4,Operand.tmp 131),(5,Operand.tmp 132),(8,Operand.tmp 134)],type:=54,pos:= "ref.go:160",after:=#[{ on:=7,ground:=Ground.data },{ on:=10,ground:=Ground.data },{ on:=13,ground:=Ground.data },{ on:=14,ground:=Ground.data },{ on:=16,ground:=Ground.data }],guard:=none }
@[reducible] def p21x18:Oper:={ dst:=some 136,op:=Op.buildSlice 30 1 #[(0,Operand.tmp 135)],type:=30,pos:= "ref.go:160",after:=#[{ on:=17,ground:=Ground.data }],guard:=none }
@[reducible] def p21x19:Oper:={ dst:=some 137,op:=Op.call ({ callee:=Callee.builtin Builtin.append,args:=#[Operand.tmp 122,Operand.tmp 136],argTypes:=#[30,30] }),type:=30,pos:= "ref.go:160",after:=#[{ on:=4,ground:=Ground.data },{ on:=18,ground:=Ground.data },{ on:=13,ground:=Ground.chain }],guard:=none }
@[reducible] def p21x20:Oper:={ dst:=some 138,op:=Op.nilCheck (Operand.tmp 118),type:=0,pos:= "ref.go:160",after:=#[{ on:=0,ground:=Ground.data },{ on:=0,ground:=Ground.phase },{ on:=1,ground:=Ground.phase },{ on:=2,ground:=Ground.phase },{ on:=3,ground:=Ground.phase },{ on:=4,ground:=Ground.phase },{ on:=5,ground:=Ground.phase },{ on:=6,ground:=Ground.phase },{ on:=7,ground:=Ground.phase },{ on:=8,ground:=Ground.phase },{ on:=9,ground:=Ground.phase },{ on:=10,ground:=Ground.phase },{ on:=11,ground:=Ground.phase },{ on:=12,ground:=Ground.phase },{ on:=13,ground:=Ground.phase },{ on:=14,ground:=Ground.phase },{ on:=15,ground:=Ground.phase },{ on:=16,ground:=Ground.phase },{ on:=17,ground:=Ground.phase },{ on:=18,ground:=Ground.phase },{ on:=19,ground:=Ground.phase }],guard:=none }
@[reducible] def p21x21:Oper:={ dst:=some 139,op:=Op.fieldAddr 32 (Operand.tmp 138) 3,type:=0,pos:= "ref.go:160",after:=#[{ on:=20,ground:=Ground.data },{ on:=0,ground:=Ground.phase },{ on:=1,ground:=Ground.phase },{ on:=2,ground:=Ground.phase },{ on:=3,ground:=Ground.phase },{ on:=4,ground:=Ground.phase },{ on:=5,ground:=Ground.phase },{ on:=6,ground:=Ground.phase },{ on:=7,ground:=Ground.phase },{ on:=8,ground:=Ground.phase },{ on:=9,ground:=Ground.phase },{ on:=10,ground:=Ground.phase },{ on:=11,ground:=Ground.phase },{ on:=12,ground:=Ground.phase },{ on:=13,ground:=Ground.phase },{ on:=14,ground:=Ground.phase },{ on:=15,ground:=Ground.phase },{ on:=16,ground:=Ground.phase },{ on:=17,ground:=Ground.phase },{ on:=18,ground:=Ground.phase },{ on:=19,ground:=Ground.phase }],guard:=none }
@[reducible] def p21x22:Oper:={ dst:=none,op:=Op.store 30 (Operand.tmp 139) (Operand.tmp 137),type:=0,pos:= "ref.go:160",after:=#[{ on:=21,ground:=Ground.data },{ on:=19,ground:=Ground.data },{ on:=19,ground:=Ground.chain },{ on:=0,ground:=Ground.phase },{ on:=1,ground:=Ground.phase },{ on:=2,ground:=Ground.phase },{ on:=3,ground:=Ground.phase },{ on:=4,ground:=Ground.phase },{ on:=5,ground:=Ground.phase },{ on:=6,ground:=Ground.phase },{ on:=7,ground:=Ground.phase },{ on:=8,ground:=Ground.phase },{ on:=9,ground:=Ground.phase },{ on:=10,ground:=Ground.phase },{ on:=11,ground:=Ground.phase },{ on:=12,ground:=Ground.phase },{ on:=13,ground:=Ground.phase },{ on:=14,ground:=Ground.phase },{ on:=15,ground:=Ground.phase },{ on:=16,ground:=Ground.phase },{ on:=17,ground:=Ground.phase },{ on:=18,ground:=Ground.phase },{ on:=19,ground:=Ground.phase }],guard:=none }
@[reducible] def ps21:Array Oper:=#[p21x0,p21x1,p21x2,p21x3,p21x4,p21x5,p21x6,p21x7,p21x8,p21x9,p21x10,p21x11,p21x12,p21x13,p21x14,p21x15,p21x16,p21x17,p21x18,p21x19,p21x20,p21x21,p21x22]
theorem nine_one2 (i l r:Int) (g1 n1 c1 lb lo n2 c2:Nat):∀ u∈([.int .i64 i,.int .i64 l,.int .i64 1,.int .i64 1,.slice (some ⟨g1,0,none⟩) n1 c1,.slice (some ⟨lb,lo,none⟩) n2 c2,.slice none 0 0,.slice none 0 0,.int .i64 r]:List Value),u.oneCell'=true:=fun u hu=>by
 simp at hu
 rcases hu with rfl | rfl | rfl | rfl | rfl | rfl | rfl | rfl | rfl <;> rfl
theorem region21 {Q:Exit→Act→World→Prop} (a:Act) {W:World} {L:Nat→Prop} {q:Nat} {oa:Option Addr} {cap:Nat} {vb vt ve:Value} {ps:List (Value × Pt)} {I:Im} (h:DC W L q vb vt (.slice oa ps.length cap) ve ps I) (x:Nat) (rk ra rb rc rd:Int) (rn rt:ByteArray) (la:Option Addr) (ll lc:Nat) (hx:W.heap[x]?=some (.cells (RV rk ra rb rc rd rn rt la ll lc) 34)) (hxo:¬ OwnD q vb vt (.slice oa ps.length cap) ve x)
  (lb lo lcap:Nat) (ls:List Int) (hl:IL W (.slice (some ⟨lb,lo,none⟩) ls.length lcap) ls) (hl0:0<ls.length) (hl1:ls.length≤100) (hlo:¬ OwnD q vb vt (.slice oa ps.length cap) ve lb) (hlc:W.cell? ⟨lb,lo,none⟩=some (.int .i64 (headL ls))) (hhd:I64 (headL ls)) (first k:Int) (hfk:IntKind.i64.wrap (first+k)=first+k) (hid':I64 (first+k)) (hrc:I64 rc) (hok:ImOk { I with parts:=I.parts++[newP (first+k) ls rc] })
  (h0:a.eval (.tmp 0)=.pointer (some ⟨q,0,none⟩)) (h3:a.eval (.tmp 3)=.pointer (some ⟨x,0,none⟩)) (h9:a.eval (.tmp 9)=.int .i64 first) (h10:a.eval (.tmp 10)=.int .i64 k) (h11:a.eval (.tmp 11)=.slice (some ⟨lb,lo,none⟩) ls.length lcap) (hsz:a.tmps.size=156)
  (hQ:∀ (g c g1 c1 B1:Nat) (W3:World) (L':Nat→Prop) (ps':List (Value × Pt)),DC W3 L' q vb vt (.slice (some ⟨g,0,none⟩) (ps.length+1) c) ve ps' { I with parts:=I.parts++[newP (first+k) ls rc] }→(∀ j,L' j→L j∨j=lb∨W.heap.size≤j)→((Value.slice oa ps.length cap).ownBlock=some g∨W.heap.size≤g)→Keeps (OwnD q vb vt (.slice oa ps.length cap) ve) W W3→Q .normal (((((((((((((((((((((((a.put (some 118) (.pointer (some ⟨q,0,none⟩))).put (some 119) (.pointer (some ⟨q,0,none⟩))).put (some 120) (.pointer (some ⟨q,0,none⟩))).put (some 121) (.pointer (some ⟨q,3,none⟩))).put (some 122) (.slice oa ps.length cap)).put (some 123) (.int .i64 first)).put (some 124) (.int .i64 k)).put (some 125) (.int .i64 (first+k))).put (some 126) (.slice (some ⟨lb,lo,none⟩) ls.length lcap)).put (some 127) (.pointer (some ⟨lb,lo,none⟩))).put (some 128) (.int .i64 (headL ls))).put (some 130) (.slice (some ⟨lb,lo,none⟩) ls.length lcap)).put (some 132) (.slice (some ⟨lb,lo,none⟩) ls.length lcap)).put (some 133) (.pointer (some ⟨x,3,none⟩))).put (some 134) (.int .i64 rc)).put (some 129) (.slice (some ⟨W.heap.size,0,none⟩) 0 0)).put (some 131) (.slice (some ⟨g1,0,none⟩) (0+ls.length) c1)).put (some 135) (.agg #[.int .i64 (first+k),.int .i64 (headL ls),.int .i64 1,.int .i64 1,.slice (some ⟨g1,0,none⟩) (0+ls.length) c1,.slice (some ⟨lb,lo,none⟩) ls.length lcap,.slice none 0 0,.slice none 0 0,.int .i64 rc])).put (some 136) (.slice (some ⟨B1,0,none⟩) 1 1)).put (some 137) (.slice (some ⟨g,0,none⟩) (ps.length+1) c)).put (some 138) (.pointer (some ⟨q,0,none⟩))).put (some 139) (.pointer (some ⟨q,3,none⟩))).put none undef) W3) :
  (Code.region 21 ps21 true).wp Tryz.prog Q a W:=by
 obtain ⟨j0,hj0,hz0,hz1,hz2⟩:=info54
 obtain ⟨i0,hi0,hy0,hy1,hy2⟩:=info3
 have hfew:ps.length≤16:=by have:=h.plen;have:=h.ok.few;omega
 have hqlt:q<W.heap.size:=h.lt (.inl rfl)
 have hxlt:x<W.heap.size:=(Array.getElem?_eq_some_iff.1 hx).1
 have hlblt:lb<W.heap.size:=hl.old (by intro e;rw [e] at hl0;simp at hl0) lb lo _ _ rfl
 have HS0:W.drew.heap[q]?=some (.cells #[.int .i64 I.applied,vb,vt,.slice oa ps.length cap,ve] 32)∧W.drew.heap[x]?=some (.cells (RV rk ra rb rc rd rn rt la ll lc) 34)∧W.drew.cell? ⟨lb,lo,none⟩=some (.int .i64 (headL ls)):=⟨h.cells,hx,hlc⟩
 have HSB:∀ V,Below W.heap.size W V→V.heap[q]?=some (.cells #[.int .i64 I.applied,vb,vt,.slice oa ps.length cap,ve] 32)∧V.heap[x]?=some (.cells (RV rk ra rb rc rd rn rt la ll lc) 34)∧V.cell? ⟨lb,lo,none⟩=some (.int .i64 (headL ls)):=fun V hV=>⟨(hV.block q hqlt).trans h.cells,(hV.block x hxlt).trans hx,kept_cell hV hlc⟩
 have hB1:Below W.heap.size W (W.drew.alloc (.cells #[] 3)):=((Below.refl _ W).drew).alloc (Nat.le_refl _) _
 have HS1:=HSB _ hB1
 have HSZ1:(W.drew.alloc (.cells #[] 3)).heap.size=W.heap.size+1:=by simp
 have HR0:(W.drew.alloc (.cells #[] 3)).ownsRow 0 3 1 (.slice (some ⟨W.heap.size,0,none⟩) 0 0) 0 []:=⟨rfl,.inr ⟨W.heap.size,0,#[],rfl,Nat.zero_le _,heap_alloc_new W.drew _,Nat.le_refl _,Nat.zero_le _,rfl,rfl⟩⟩
 have HNV:∀ j u,(vals ls)[j]?=some u→(W.drew.alloc (.cells #[] 3)).cell? ((⟨lb,lo,none⟩:Addr).add j)=some u:=fun j u hu=>kept_cell hB1 (hl.cells rfl (by intro e;rw [e] at hl0;simp at hl0) j u hu)
 refine wp_region_noPanic ?_
 refine region_last (fun V=>V.heap[q]?=some (.cells #[.int .i64 I.applied,vb,vt,.slice oa ps.length cap,ve] 32)∧V.heap[x]?=some (.cells (RV rk ra rb rc rd rn rt la ll lc) 34)∧V.cell? ⟨lb,lo,none⟩=some (.int .i64 (headL ls))) 22 (by kernel_rfl) ?_
 refine ButLast.take (oi:=p21x0) 0 (.pointer (some ⟨q,0,none⟩)) [21,20] (by rfl) (by kernel_rfl) (by kernel_rfl) (by kernel_rfl) (by kernel_rfl) (by kernel_rfl) (fun c a w h=>h) (yields_move (by rfl) 0 (by rfl) h0) HS0 ?_
 refine ButLast.take (oi:=p21x1) 1 (.pointer (some ⟨q,0,none⟩)) [19,4,3,2] (by rfl) (by kernel_rfl) (by kernel_rfl) (by kernel_rfl) (by kernel_rfl) (by kernel_rfl) (fun c a w h=>h) (yields_move (by rfl) 0 (by rfl) (by simp [put_eval,put_size,hsz,h0,h3,h9,h10,h11])) HS0 ?_
 refine ButLast.take (oi:=p21x2) 2 (.pointer (some ⟨q,0,none⟩)) [19,4,3] (by rfl) (by kernel_rfl) (by kernel_rfl) (by kernel_rfl) (by kernel_rfl) (by kernel_rfl) (fun c a w h=>h) (yields_nil (by rfl) 119 q (by rfl) (by simp [put_eval,put_size,hsz,h0,h3,h9,h10,h11])) HS0 ?_
 refine ButLast.take (oi:=p21x3) 3 (.pointer (some ⟨q,3,none⟩)) [19,4] (by rfl) (by kernel_rfl) (by kernel_rfl) (by kernel_rfl) (by kernel_rfl) (by kernel_rfl) (fun c a w h=>h) (yields_field32_3 (by rfl) 120 q (by rfl) (by simp [put_eval,put_size,hsz,h0,h3,h9,h10,h11])) HS0 ?_
 refine ButLast.take (oi:=p21x4) 4 (.slice oa ps.length cap) [19] (by rfl) (by kernel_rfl) (by kernel_rfl) (by kernel_rfl) (by kernel_rfl) (by kernel_rfl) (fun c a w h=>h) (yields_load30 (by rfl) 121 q 3 (by rfl) (by simp [put_eval,put_size,hsz,h0,h3,h9,h10,h11]) _ (fun V hV=>cell_blk hV.1 3 _ rfl)) HS0 ?_
 refine ButLast.take (oi:=p21x5) 5 (.int .i64 first) [19,18,17,7] (by rfl) (by kernel_rfl) (by kernel_rfl) (by kernel_rfl) (by kernel_rfl) (by kernel_rfl) (fun c a w h=>h) (yields_move (by rfl) 9 (by rfl) (by simp [put_eval,put_size,hsz,h0,h3,h9,h10,h11])) HS0 ?_
 refine ButLast.take (oi:=p21x6) 6 (.int .i64 k) [19,18,17,7] (by rfl) (by kernel_rfl) (by kernel_rfl) (by kernel_rfl) (by kernel_rfl) (by kernel_rfl) (fun c a w h=>h) (yields_move (by rfl) 10 (by rfl) (by simp [put_eval,put_size,hsz,h0,h3,h9,h10,h11])) HS0 ?_
 refine ButLast.take (oi:=p21x7) 7 (.int .i64 (first+k)) [19,18,17] (by rfl) (by kernel_rfl) (by kernel_rfl) (by kernel_rfl) (by kernel_rfl) (by kernel_rfl) (fun c a w h=>h) (yields_add (by rfl) 123 124 first k (by rfl) (by simp [put_eval,put_size,hsz,h0,h3,h9,h10,h11]) (by simp [put_eval,put_size,hsz,h0,h3,h9,h10,h11]) hfk) HS0 ?_
 refine ButLast.take (oi:=p21x8) 8 (.slice (some ⟨lb,lo,none⟩) ls.length lcap) [19,18,17,10,9] (by rfl) (by kernel_rfl) (by kernel_rfl) (by kernel_rfl) (by kernel_rfl) (by kernel_rfl) (fun c a w h=>h) (yields_move (by rfl) 11 (by rfl) (by simp [put_eval,put_size,hsz,h0,h3,h9,h10,h11])) HS0 ?_
 refine ButLast.take (oi:=p21x9) 9 (.pointer (some ⟨lb,lo,none⟩)) [19,18,17,10] (by rfl) (by kernel_rfl) (by kernel_rfl) (by kernel_rfl) (by kernel_rfl) (by kernel_rfl) (fun c a w h=>h) (yields_index (by rfl) 126 lb lo ls.length lcap (by rfl) (by simp [put_eval,put_size,hsz,h0,h3,h9,h10,h11]) hl0) HS0 ?_
 refine ButLast.take (oi:=p21x10) 10 (.int .i64 (headL ls)) [19,18,17] (by rfl) (by kernel_rfl) (by kernel_rfl) (by kernel_rfl) (by kernel_rfl) (by kernel_rfl) (fun c a w h=>h) (yields_load3 (by rfl) 127 lb lo (by rfl) (by simp [put_eval,put_size,hsz,h0,h3,h9,h10,h11]) _ (fun V hV=>hV.2.2)) HS0 ?_
 refine ButLast.take (oi:=p21x12) 12 (.slice (some ⟨lb,lo,none⟩) ls.length lcap) [19,18,17,13] (by rfl) (by kernel_rfl) (by kernel_rfl) (by kernel_rfl) (by kernel_rfl) (by kernel_rfl) (fun c a w h=>h) (yields_move (by rfl) 11 (by rfl) (by simp [put_eval,put_size,hsz,h0,h3,h9,h10,h11])) HS0 ?_
 refine ButLast.take (oi:=p21x14) 14 (.slice (some ⟨lb,lo,none⟩) ls.length lcap) [19,18,17] (by rfl) (by kernel_rfl) (by kernel_rfl) (by kernel_rfl) (by kernel_rfl) (by kernel_rfl) (fun c a w h=>h) (yields_move (by rfl) 11 (by rfl) (by simp [put_eval,put_size,hsz,h0,h3,h9,h10,h11])) HS0 ?_
 refine ButLast.take (oi:=p21x15) 15 (.pointer (some ⟨x,3,none⟩)) [19,18,17,16] (by rfl) (by kernel_rfl) (by kernel_rfl) (by kernel_rfl) (by kernel_rfl) (by kernel_rfl) (fun c a w h=>h) (yields_field34_3 (by rfl) 3 x (by rfl) (by simp [put_eval,put_size,hsz,h0,h3,h9,h10,h11])) HS0 ?_
 refine ButLast.take (oi:=p21x16) 16 (.int .i64 rc) [19,18,17] (by rfl) (by kernel_rfl) (by kernel_rfl) (by kernel_rfl) (by kernel_rfl) (by kernel_rfl) (fun c a w h=>h) (yields_load3 (by rfl) 133 x 3 (by rfl) (by simp [put_eval,put_size,hsz,h0,h3,h9,h10,h11]) _ (fun V hV=>cell_blk hV.2.1 3 _ rfl)) HS0 ?_
 refine ButLast.one (o:=p21x11) 11 (by kernel_rfl) (by rfl) (fun K hK=>?_)
 refine step_none23 (by rfl) (by rfl) ?_
 refine hK.out _ _ (fun _=>HS1) ?_
 clear hK K
 refine ButLast.one (o:=p21x13) 13 (by kernel_rfl) (by rfl) (fun K hK=>?_)
 refine step_append_lies _ (by rfl) (.tmp 129) (.tmp 130) 23 (by rfl) 0 3 i0 _ 1 8 Tryz.underlying23 hi0 hy0 hy1 hy2 rfl (by decide) (.slice (some ⟨W.heap.size,0,none⟩) 0 0) 0 [] (by simp [put_eval,put_size,hsz,h0,h3,h9,h10,h11]) HR0 ⟨lb,lo,none⟩ ls.length lcap (vals ls) (by simp [put_eval,put_size,hsz,h0,h3,h9,h10,h11]) (by simp [vals]) HNV (fun u hu=>by obtain ⟨z,_,rfl⟩:=List.mem_map.1 hu;rfl) hl0 (by unfold maxLen;omega) (by omega) (Nat.zero_le _) (W.heap.size+1) HSZ1 ?_
 intro g1 c1 V2 hown2 hg2 hat2 hlt2
 have hB2:Below W.heap.size W V2:=hB1.grown hg2 (by rw [HSZ1];omega) (fun j hj=>by cases hj;exact Nat.le_refl _)
 refine hK.out _ _ (fun _=>HSB V2 hB2) ?_
 clear hK K
 have hg1:W.heap.size≤g1:=by
  rcases hat2 with e | e
  ·cases e;exact Nat.le_refl _
  ·omega
 have hz:0+ls.length=ls.length:=Nat.zero_add _
 have hil1:IL V2 (.slice (some ⟨g1,0,none⟩) (0+ls.length) c1) ls:=by
  rw [hz] at hown2 ⊢
  rw [List.nil_append] at hown2
  exact IL.of hown2 hl.ok (by omega)
 have hp0:PartM V2 (.agg #[.int .i64 (first+k),.int .i64 (headL ls),.int .i64 1,.int .i64 1,.slice (some ⟨g1,0,none⟩) (0+ls.length) c1,.slice (some ⟨lb,lo,none⟩) ls.length lcap,.slice none 0 0,.slice none 0 0,.int .i64 rc]) (newP (first+k) ls rc):=⟨_,_,_,_,rfl,hil1,hl.under hB2,IL.nil _,IL.nil _,hid',hhd,by show I64 1;unfold I64;omega,by show I64 1;unfold I64;omega,hrc⟩
 have hp2:InP (fun j=>j=lb∨j=g1) (.agg #[.int .i64 (first+k),.int .i64 (headL ls),.int .i64 1,.int .i64 1,.slice (some ⟨g1,0,none⟩) (0+ls.length) c1,.slice (some ⟨lb,lo,none⟩) ls.length lcap,.slice none 0 0,.slice none 0 0,.int .i64 rc]) (newP (first+k) ls rc):=fun i l m ep a b c d n e=>by
  simp only [Value.agg.injEq] at e
  have e4:=congrArg (fun z:Array Value=>z[4]?) e
  have e5:=congrArg (fun z:Array Value=>z[5]?) e
  have e6:=congrArg (fun z:Array Value=>z[6]?) e
  have e7:=congrArg (fun z:Array Value=>z[7]?) e
  simp at e4 e5 e6 e7
  subst e4 e5 e6 e7
  exact ⟨fun _ b off n c e=>by cases e;exact .inr rfl,fun _ b off n c e=>by cases e;exact .inl rfl,In.nil _ _,In.nil _ _⟩
 have hs2:=hB2.size
 refine ButLast.take (oi:=p21x17) 17 (.agg #[.int .i64 (first+k),.int .i64 (headL ls),.int .i64 1,.int .i64 1,.slice (some ⟨g1,0,none⟩) (0+ls.length) c1,.slice (some ⟨lb,lo,none⟩) ls.length lcap,.slice none 0 0,.slice none 0 0,.int .i64 rc]) [19,18] (by rfl) (by kernel_rfl) (by kernel_rfl) (by kernel_rfl) (by kernel_rfl) (by kernel_rfl) (fun c a w h=>h) (yields_build54 (by rfl) 125 128 131 132 134 (first+k) (headL ls) rc (some ⟨g1,0,none⟩) (some ⟨lb,lo,none⟩) (0+ls.length) c1 ls.length lcap (by rfl) (by simp [put_eval,put_size,hsz,h0,h3,h9,h10,h11]) (by simp [put_eval,put_size,hsz,h0,h3,h9,h10,h11]) (by simp [put_eval,put_size,hsz,h0,h3,h9,h10,h11]) (by simp [put_eval,put_size,hsz,h0,h3,h9,h10,h11]) (by simp [put_eval,put_size,hsz,h0,h3,h9,h10,h11])) (HSB V2 hB2) ?_
 generalize hPP:newP (first+k) ls rc=p at *
 have hB3:Below W.heap.size W (V2.alloc (.cells #[.int .i64 (first+k),.int .i64 (headL ls),.int .i64 1,.int .i64 1,.slice (some ⟨g1,0,none⟩) (0+ls.length) c1,.slice (some ⟨lb,lo,none⟩) ls.length lcap,.slice none 0 0,.slice none 0 0,.int .i64 rc] 54)):=hB2.alloc hs2 _
 have HSZ:(V2.alloc (.cells #[.int .i64 (first+k),.int .i64 (headL ls),.int .i64 1,.int .i64 1,.slice (some ⟨g1,0,none⟩) (0+ls.length) c1,.slice (some ⟨lb,lo,none⟩) ls.length lcap,.slice none 0 0,.slice none 0 0,.int .i64 rc] 54)).heap.size=V2.heap.size+1:=by simp
 have HROW:(V2.alloc (.cells #[.int .i64 (first+k),.int .i64 (headL ls),.int .i64 1,.int .i64 1,.slice (some ⟨g1,0,none⟩) (0+ls.length) c1,.slice (some ⟨lb,lo,none⟩) ls.length lcap,.slice none 0 0,.slice none 0 0,.int .i64 rc] 54)).ownsRow 0 54 9 (.slice oa ps.length cap) ps.length (flatP ps):=(h.under hB3).parts
 have HNEW:∀ j u,([.int .i64 (first+k),.int .i64 (headL ls),.int .i64 1,.int .i64 1,.slice (some ⟨g1,0,none⟩) (0+ls.length) c1,.slice (some ⟨lb,lo,none⟩) ls.length lcap,.slice none 0 0,.slice none 0 0,.int .i64 rc]:List Value)[j]?=some u→(V2.alloc (.cells #[.int .i64 (first+k),.int .i64 (headL ls),.int .i64 1,.int .i64 1,.slice (some ⟨g1,0,none⟩) (0+ls.length) c1,.slice (some ⟨lb,lo,none⟩) ls.length lcap,.slice none 0 0,.slice none 0 0,.int .i64 rc] 54)).cell? ((⟨V2.heap.size,0,none⟩:Addr).add j)=some u:=fun j u hu=>by
  rw [add_at,Nat.zero_add j]
  refine cell_blk (w:=V2.alloc (.cells #[.int .i64 (first+k),.int .i64 (headL ls),.int .i64 1,.int .i64 1,.slice (some ⟨g1,0,none⟩) (0+ls.length) c1,.slice (some ⟨lb,lo,none⟩) ls.length lcap,.slice none 0 0,.slice none 0 0,.int .i64 rc] 54)) (heap_alloc_new V2 (.cells #[.int .i64 (first+k),.int .i64 (headL ls),.int .i64 1,.int .i64 1,.slice (some ⟨g1,0,none⟩) (0+ls.length) c1,.slice (some ⟨lb,lo,none⟩) ls.length lcap,.slice none 0 0,.slice none 0 0,.int .i64 rc] 54)) j u ?_
  rw [← hu]
  simp
 have HG:∀ (w5:World) (g c:Nat),w5.ownsRow 0 54 9 (.slice (some ⟨g,0,none⟩) (ps.length+1) c) (ps.length+1) (flatP ps++[.int .i64 (first+k),.int .i64 (headL ls),.int .i64 1,.int .i64 1,.slice (some ⟨g1,0,none⟩) (0+ls.length) c1,.slice (some ⟨lb,lo,none⟩) ls.length lcap,.slice none 0 0,.slice none 0 0,.int .i64 rc])→(V2.alloc (.cells #[.int .i64 (first+k),.int .i64 (headL ls),.int .i64 1,.int .i64 1,.slice (some ⟨g1,0,none⟩) (0+ls.length) c1,.slice (some ⟨lb,lo,none⟩) ls.length lcap,.slice none 0 0,.slice none 0 0,.int .i64 rc] 54)).grownBy w5 (Value.slice oa ps.length cap).ownBlock→((Value.slice oa ps.length cap).ownBlock=some g∨g=V2.heap.size+1) →
   (w5.heap[q]?=some (.cells #[.int .i64 I.applied,vb,vt,.slice oa ps.length cap,ve] 32)∧w5.heap[x]?=some (.cells (RV rk ra rb rc rd rn rt la ll lc) 34)∧w5.cell? ⟨lb,lo,none⟩=some (.int .i64 (headL ls)))∧DC (w5.setCell ⟨q,3,none⟩ (.slice (some ⟨g,0,none⟩) (ps.length+1) c)) (fun j=>L j∨(j=lb∨j=g1)) q vb vt (.slice (some ⟨g,0,none⟩) (ps.length+1) c) ve (ps++[(.agg #[.int .i64 (first+k),.int .i64 (headL ls),.int .i64 1,.int .i64 1,.slice (some ⟨g1,0,none⟩) (0+ls.length) c1,.slice (some ⟨lb,lo,none⟩) ls.length lcap,.slice none 0 0,.slice none 0 0,.int .i64 rc],p)]) { I with parts:=I.parts++[p] }∧Keeps (OwnD q vb vt (.slice oa ps.length cap) ve) W (w5.setCell ⟨q,3,none⟩ (.slice (some ⟨g,0,none⟩) (ps.length+1) c)):=fun w5 g c hown hg hat=>by
  have hs5:=hg.size
  have hblk:∀ j,j<V2.heap.size→(Value.slice oa ps.length cap).ownBlock≠some j→w5.heap[j]?=V2.heap[j]?:=fun j hj hne=>by
   rw [hg.block j (by rw [HSZ];omega) (fun e=>hne e.symm),Below.heap_alloc _ _ _ hj]
  have hqc:=(hblk q (by omega) h.ne_q.2.2.1).trans ((hB2.block q hqlt).trans h.cells)
  have hvl:∀ j,(Value.slice oa ps.length cap).ownBlock=some j→j<W.heap.size:=fun j hj=>h.lt (.inr (.inr (.inr (.inl hj))))
  have hnew:∀ j,(Value.slice (some ⟨g,0,none⟩) (ps.length+1) c).ownBlock=some j→(Value.slice oa ps.length cap).ownBlock=some j∨V2.heap.size+1≤j:=fun j hj=>by
   cases hj
   rcases hat with e | e
   ·exact .inl e
   ·exact .inr (by show V2.heap.size+1≤g;omega)
  have hoth:∀ j,j<W.heap.size→j≠q→(Value.slice oa ps.length cap).ownBlock≠some j→(w5.setCell ⟨q,3,none⟩ (.slice (some ⟨g,0,none⟩) (ps.length+1) c)).heap[j]?=W.heap[j]?:=fun j hj hjq hje=>by
   rw [Below.heap_setCell _ _ _ _ hjq,hblk j (by omega) hje,hB2.block j hj]
  have hlbo:(Value.slice oa ps.length cap).ownBlock≠some lb:=fun e=>hlo (.inr (.inr (.inr (.inl e))))
  have hlbq:lb≠q:=fun e=>hlo (.inl e)
  refine ⟨⟨hqc,(hblk x (by omega) (fun e=>hxo (.inr (.inr (.inr (.inl e)))))).trans (HSB V2 hB2).2.1,?_⟩,h.swapP (X:=fun j=>j=lb∨j=g1) (by simp;omega) hoth (set_box hqc) ?_ (fun j hj=>(hnew j hj).imp (fun e=>e) (fun e=>by omega)) ?_ hp2 (fun j hj=>⟨?_,?_⟩) hok,⟨hg.os.trans hB2.os,hg.tape.trans hB2.tape,hg.output.trans hB2.output,by simp;omega,fun j hj hS=>hoth j hj (fun e=>hS (.inl e)) (fun e=>hS (.inr (.inr (.inr (.inl e)))))⟩⟩
  ·exact (World.cell?_of_block (a:=⟨lb,lo,none⟩) (hblk lb (by omega) hlbo)).trans (HSB V2 hB2).2.2
  ·have hqv:(Value.slice (some ⟨g,0,none⟩) (ps.length+1) c).ownBlock≠some q:=fun e=>by
    rcases hnew q e with e | e
    ·exact h.ne_q.2.2.1 e
    ·omega
   have h5:=row_kept hown (w1:=w5.setCell ⟨q,3,none⟩ (.slice (some ⟨g,0,none⟩) (ps.length+1) c)) (fun j hj=>Below.heap_setCell _ _ _ _ (fun e=>hqv (by rw [hj,e])))
   rw [flatP_append]
   exact h5
  ·refine hp0.kept hp2 (fun j hj=>?_) (by simp;omega)
   rcases hj with hj | hj <;> rw [hj]
   ·rw [Below.heap_setCell _ _ _ _ hlbq]
    exact hblk _ (by omega) hlbo
   ·rw [Below.heap_setCell _ _ _ _ (show g1≠q by omega)]
    exact hblk _ hlt2 (fun e=>by have:=hvl _ e;omega)
  ·rcases hj with rfl | rfl
   ·simp;omega
   ·simp;omega
  ·rcases hj with rfl | rfl
   ·rintro (e | e | e | e | e)
    ·exact hlo (.inl e)
    ·exact hlo (.inr (.inl e))
    ·exact hlo (.inr (.inr (.inl e)))
    ·rcases hnew _ e with e | e
     ·exact hlo (.inr (.inr (.inr (.inl e))))
     ·omega
    ·exact hlo (.inr (.inr (.inr (.inr e))))
   ·rintro (e | e | e | e | e)
    ·omega
    ·have:=h.lt (.inr (.inl e));omega
    ·have:=h.lt (.inr (.inr (.inl e)));omega
    ·rcases hnew _ e with e | e
     ·have:=hvl _ e;omega
     ·omega
    ·have:=h.lt (.inr (.inr (.inr (.inr e))));omega
 refine ButLast.one (o:=p21x18) 18 (by kernel_rfl) (by rfl) (fun K hK=>?_)
 refine step_one30 (by rfl) 135 (by rfl) (first+k) (headL ls) 1 1 rc (some ⟨g1,0,none⟩) (some ⟨lb,lo,none⟩) none none (0+ls.length) ls.length 0 0 c1 lcap 0 0 (by simp [put_eval,put_size,hsz,h0,h3,h9,h10,h11]) ?_
 refine hK.out _ _ (fun _=>HSB _ hB3) ?_
 clear hK K
 refine ButLast.one (o:=p21x19) 19 (by kernel_rfl) (by rfl) (fun K hK=>?_)
 refine step_append_lies _ (by rfl) (.tmp 122) (.tmp 136) 30 (by rfl) 0 54 j0 _ 9 136 Tryz.underlying30 hj0 hz0 hz1 hz2 rfl (by decide) (.slice oa ps.length cap) ps.length (flatP ps) (by simp [put_eval,put_size,hsz,h0,h3,h9,h10,h11]) HROW ⟨V2.heap.size,0,none⟩ 1 1 [.int .i64 (first+k),.int .i64 (headL ls),.int .i64 1,.int .i64 1,.slice (some ⟨g1,0,none⟩) (0+ls.length) c1,.slice (some ⟨lb,lo,none⟩) ls.length lcap,.slice none 0 0,.slice none 0 0,.int .i64 rc] (by simp [put_eval,put_size,hsz,h0,h3,h9,h10,h11]) rfl HNEW (nine_one2 _ _ _ _ _ _ _ _ _ _) (by decide) (by unfold maxLen;omega) (by omega) (Nat.zero_le _) (V2.heap.size+1) HSZ ?_
 intro g c w5 hown5 hg5 hat5 hlt5
 obtain ⟨HS5,f0,f3⟩:=HG w5 g c hown5 hg5 hat5
 refine hK.out _ _ (fun _=>HS5) ?_
 clear hK K
 refine ButLast.take (oi:=p21x20) 20 (.pointer (some ⟨q,0,none⟩)) [21] (by rfl) (by kernel_rfl) (by kernel_rfl) (by kernel_rfl) (by kernel_rfl) (by kernel_rfl) (fun c a w h=>h) (yields_nil (by rfl) 118 q (by rfl) (by simp [put_eval,put_size,hsz,h0,h3,h9,h10,h11])) HS5 ?_
 refine ButLast.take (oi:=p21x21) 21 (.pointer (some ⟨q,3,none⟩)) [] (by rfl) (by kernel_rfl) (by kernel_rfl) (by kernel_rfl) (by kernel_rfl) (by kernel_rfl) (fun c a w h=>h) (yields_field32_3 (by rfl) 138 q (by rfl) (by simp [put_eval,put_size,hsz,h0,h3,h9,h10,h11])) HS5 ?_
 have u0:=cell_blk HS5.1 3 _ rfl
 have u1:=frz_blk HS5.1 3
 refine ButLast.store30 (o:=p21x22) 22 (by kernel_rfl) (by rfl) (by rfl) 139 137 (by rfl) q 3 g (ps.length+1) c (by simp [put_eval,put_size,hsz,h0,h3,h9,h10,h11]) (by simp [put_eval,put_size,hsz,h0,h3,h9,h10,h11]) (.slice oa ps.length cap) u0 u1 (fun h=>absurd rfl h) (ButLast.done (by kernel_rfl) ?_)
 exact NoPanic.normal (hQ g c g1 c1 _ _ _ _ f0 (fun j hj=>hj.imp (fun e=>e) (fun e=>e.imp (fun e=>e) (fun e=>by omega))) (hat5.imp (fun e=>e) (fun e=>by omega)) f3)
structure TopD (W wr:World) (L:Nat→Prop) (q:Nat) (vb vt vp ve:Value) (J:Im) (up:List Int) (nb:Nat) (rc:Int) (k:Nat):Prop where
 im:∃ L' oa cap ps,DC wr L' q vb vt (.slice oa ps.length cap) ve ps { J with parts:=J.parts++moreP J.parts.length up nb rc k }∧(∀ j,L' j→L j∨W.heap.size≤j)∧(∀ j,(Value.slice oa ps.length cap).ownBlock=some j→vp.ownBlock=some j∨W.heap.size≤j)
 keeps:Keeps (OwnD q vb vt vp ve) W wr
theorem TopD.start {W:World} {L:Nat→Prop} {q:Nat} {vb vt ve:Value} {J:Im} {ps:List (Value × Pt)} {oa:Option Addr} {cap:Nat} (h:DC W L q vb vt (.slice oa ps.length cap) ve ps J) (up:List Int) (nb:Nat) (rc:Int):TopD W W L q vb vt (.slice oa ps.length cap) ve J up nb rc 0 :=
 ⟨⟨L,oa,cap,ps,by simp [moreP];exact h,fun j hj=>.inl hj,fun j hj=>.inl hj⟩,Keeps.refl _ _⟩
theorem TopD.next {W wr W3:World} {L L1 L2:Nat→Prop} {q:Nat} {vb vt vp ve:Value} {J:Im} {up:List Int} {nb:Nat} {rc:Int} {k:Nat} {oa:Option Addr} {cap g c:Nat} {ps ps2:List (Value × Pt)} (hk:Keeps (OwnD q vb vt vp ve) W wr)
  (h1:∀ j,L1 j→L j∨W.heap.size≤j) (h2:∀ j,(Value.slice oa ps.length cap).ownBlock=some j→vp.ownBlock=some j∨W.heap.size≤j)
  (i1:DC W3 L2 q vb vt (.slice (some ⟨g,0,none⟩) (ps.length+1) c) ve ps2 { J with parts:=(J.parts++moreP J.parts.length up nb rc k)++[newP ((J.parts.length:Int)+1+(k:Int)) (roundL up k nb) rc] })
  (i2:∀ j,L2 j→L1 j∨wr.heap.size≤j) (i3:(Value.slice oa ps.length cap).ownBlock=some g∨wr.heap.size≤g) (i4:Keeps (OwnD q vb vt (.slice oa ps.length cap) ve) wr W3):TopD W W3 L q vb vt vp ve J up nb rc (k+1):=by
 have hs:=hk.size
 have hl:ps.length+1=ps2.length:=by
  obtain ⟨_,_,e,_⟩:=row_shape i1.parts
  simp only [Value.slice.injEq] at e
  exact e.2.1
 refine ⟨⟨L2,some ⟨g,0,none⟩,c,ps2,?_,fun j hj=>?_,fun j hj=>?_⟩,hk.trans i4 (fun j hj=>?_)⟩
 ·rw [moreP_succ,← List.append_assoc,← hl]
  exact i1
 ·rcases i2 j hj with h | h
  ·exact h1 j h
  ·exact .inr (Nat.le_trans hs h)
 ·cases hj
  rcases i3 with h | h
  ·exact h2 g h
  ·exact .inr (Nat.le_trans hs h)
 ·rcases hj with e | e | e | e | e
  ·exact .inl (.inl e)
  ·exact .inl (.inr (.inl e))
  ·exact .inl (.inr (.inr (.inl e)))
  ·rcases h2 j e with e | e
   ·exact .inl (.inr (.inr (.inr (.inl e))))
   ·exact .inr e
  ·exact .inl (.inr (.inr (.inr (.inr e))))
theorem isOfB_nat (c : UInt8) : isOfB c = ((decide (97 ≤ c.toNat) && decide (c.toNat ≤ 122)) || (decide (48 ≤ c.toNat) && decide (c.toNat ≤ 57)) || decide (c.toNat = 45)) := by
  unfold isOfB
  congr 1
  rw [Bool.eq_iff_iff]
  simp only [beq_iff_eq, decide_eq_true_eq]
  constructor
  · rintro rfl; rfl
  · intro h; exact UInt8.toNat_inj.1 h
theorem rname_any (s : ByteArray) (w : World) (hs : s.size ≤ maxLen) : Calls Tryz.prog 78 #[.string s] w fun e w' => e = .returned (.bool (nameB s)) ∧ w = w' := by
  unfold maxLen at hs
  have HF : Hid (nameB s = (upB s.size 32 && s.data.toList.all isOfB)) := rfl
  generalize nameB s = B at *
  by_cases g1 : (s.size : Int) < 1
  · have HB : Hid (B = false) := by show _ = _; rw [HF.out]; have : upB (s.size : Int) 32 = false := by simp only [upB, Bool.and_eq_false_iff, decide_eq_false_iff_not]; omega
                                    rw [this]; rfl
    clear HF
    go_enter Tryz.func78, Tryz.ntmps78
    go_wp2_with fail
    go_ret
    exact ⟨ret_bool (by rw [HB.out]), rfl⟩
  by_cases g2 : (32 : Int) < (s.size : Int)
  · have HB : Hid (B = false) := by show _ = _; rw [HF.out]; have : upB (s.size : Int) 32 = false := by simp only [upB, Bool.and_eq_false_iff, decide_eq_false_iff_not]; omega
                                    rw [this]; rfl
    clear HF
    go_enter Tryz.func78, Tryz.ntmps78
    go_wp2_with fail
    go_ret
    exact ⟨ret_bool (by rw [HB.out]), rfl⟩
  have HB : Hid (B = s.data.toList.all isOfB) := by show _ = _; rw [HF.out]; have : upB (s.size : Int) 32 = true := by simp only [upB, Bool.and_eq_true, decide_eq_true_eq]; omega
                                                    rw [this, Bool.true_and]
  clear HF
  go_enter Tryz.func78, Tryz.ntmps78
  go_wp2_with fail
  go_loopg [3] s.size (fun kx s3 wr => ∃ k : Nat, k ≤ s.size ∧ s.size - k ≤ kx ∧ s3 = .int .i64 (k : Int) ∧ Hid ((s.data.toList.take k).all isOfB = true) ∧ wr = w)
  case atStart => exact ⟨0, Nat.zero_le _, by omega, rfl, by show _ = _; simp, rfl⟩
  case round =>
    obtain ⟨k, hk, hkx, rfl, HK, rfl⟩ := hrel
    by_cases hlt : k < s.size
    · have hlt' : (k : Int) < (s.size : Int) := by omega
      have HT : Hid ((s.data.toList.take (k + 1)).all isOfB = ((s.data.toList.take k).all isOfB && isOfB s[k])) := by
        show _ = _
        rw [take_at s k hlt, List.all_append]
        simp
      have HM : Hid (isOfB s[k] = false → s.data.toList.all isOfB = false) := fun h => by
        rw [List.all_eq_false]
        exact ⟨s[k], by simp [ByteArray.getElem_eq_getElem_data], by simp [h]⟩
      have HO : Hid (isOfB s[k] = ((decide (97 ≤ s[k].toNat) && decide (s[k].toNat ≤ 122)) || (decide (48 ≤ s[k].toNat) && decide (s[k].toNat ≤ 57)) || decide (s[k].toNat = 45))) := isOfB_nat _
      have hc : s[k].toNat < 256 := UInt8.toNat_lt _
      have HY : Hid (isOfB s[k] = true → (s.data.toList.take (k + 1)).all isOfB = true) := fun h => by rw [HT.out, HK.out, h]; rfl
      clear HT HK
      by_cases x44 : s[k].toNat ≤ 44
      · have hno : isOfB s[k] = false := by rw [HO.out, Bool.eq_false_iff]; intro hh; simp only [Bool.or_eq_true, Bool.and_eq_true, decide_eq_true_eq] at hh; omega
        have HM2 := hid (HM.out hno)
        clear HM HO HY hno
        have f0 : (s[k].toNat : Int) < 97 := by omega
        have f1 : ¬ (122 : Int) < (s[k].toNat : Int) := by omega
        have f2 : (s[k].toNat : Int) < 48 := by omega
        have f3 : ¬ (57 : Int) < (s[k].toNat : Int) := by omega
        have f4 : ¬ (s[k].toNat : Int) = 45 := by omega
        go_wp2_with fail
        go_ret
        exact ⟨ret_bool (by rw [HB.out, HM2.out]), rfl⟩
      by_cases x45 : s[k].toNat ≤ 45
      · have hyes : isOfB s[k] = true := by rw [HO.out]; simp only [Bool.or_eq_true, Bool.and_eq_true, decide_eq_true_eq]; omega
        have HY2 := hid (HY.out hyes)
        clear HM HO HY hyes
        have f0 : (s[k].toNat : Int) < 97 := by omega
        have f1 : ¬ (122 : Int) < (s[k].toNat : Int) := by omega
        have f2 : (s[k].toNat : Int) < 48 := by omega
        have f3 : ¬ (57 : Int) < (s[k].toNat : Int) := by omega
        have f4 : (s[k].toNat : Int) = 45 := by omega
        go_wp2_with fail
        go_roundg (s.size - (k + 1))
        case measure => omega
        case rel => exact ⟨k + 1, by omega, Nat.le_refl _, by go_num, HY2.out, rfl⟩
      by_cases x47 : s[k].toNat ≤ 47
      · have hno : isOfB s[k] = false := by rw [HO.out, Bool.eq_false_iff]; intro hh; simp only [Bool.or_eq_true, Bool.and_eq_true, decide_eq_true_eq] at hh; omega
        have HM2 := hid (HM.out hno)
        clear HM HO HY hno
        have f0 : (s[k].toNat : Int) < 97 := by omega
        have f1 : ¬ (122 : Int) < (s[k].toNat : Int) := by omega
        have f2 : (s[k].toNat : Int) < 48 := by omega
        have f3 : ¬ (57 : Int) < (s[k].toNat : Int) := by omega
        have f4 : ¬ (s[k].toNat : Int) = 45 := by omega
        go_wp2_with fail
        go_ret
        exact ⟨ret_bool (by rw [HB.out, HM2.out]), rfl⟩
      by_cases x57 : s[k].toNat ≤ 57
      · have hyes : isOfB s[k] = true := by rw [HO.out]; simp only [Bool.or_eq_true, Bool.and_eq_true, decide_eq_true_eq]; omega
        have HY2 := hid (HY.out hyes)
        clear HM HO HY hyes
        have f0 : (s[k].toNat : Int) < 97 := by omega
        have f1 : ¬ (122 : Int) < (s[k].toNat : Int) := by omega
        have f2 : ¬ (s[k].toNat : Int) < 48 := by omega
        have f3 : ¬ (57 : Int) < (s[k].toNat : Int) := by omega
        have f4 : ¬ (s[k].toNat : Int) = 45 := by omega
        go_wp2_with fail
        go_roundg (s.size - (k + 1))
        case measure => omega
        case rel => exact ⟨k + 1, by omega, Nat.le_refl _, by go_num, HY2.out, rfl⟩
      by_cases x96 : s[k].toNat ≤ 96
      · have hno : isOfB s[k] = false := by rw [HO.out, Bool.eq_false_iff]; intro hh; simp only [Bool.or_eq_true, Bool.and_eq_true, decide_eq_true_eq] at hh; omega
        have HM2 := hid (HM.out hno)
        clear HM HO HY hno
        have f0 : (s[k].toNat : Int) < 97 := by omega
        have f1 : ¬ (122 : Int) < (s[k].toNat : Int) := by omega
        have f2 : ¬ (s[k].toNat : Int) < 48 := by omega
        have f3 : 57 < (s[k].toNat : Int) := by omega
        have f4 : ¬ (s[k].toNat : Int) = 45 := by omega
        go_wp2_with fail
        go_ret
        exact ⟨ret_bool (by rw [HB.out, HM2.out]), rfl⟩
      by_cases x122 : s[k].toNat ≤ 122
      · have hyes : isOfB s[k] = true := by rw [HO.out]; simp only [Bool.or_eq_true, Bool.and_eq_true, decide_eq_true_eq]; omega
        have HY2 := hid (HY.out hyes)
        clear HM HO HY hyes
        have f0 : ¬ (s[k].toNat : Int) < 97 := by omega
        have f1 : ¬ (122 : Int) < (s[k].toNat : Int) := by omega
        have f2 : ¬ (s[k].toNat : Int) < 48 := by omega
        have f3 : 57 < (s[k].toNat : Int) := by omega
        have f4 : ¬ (s[k].toNat : Int) = 45 := by omega
        go_wp2_with fail
        go_roundg (s.size - (k + 1))
        case measure => omega
        case rel => exact ⟨k + 1, by omega, Nat.le_refl _, by go_num, HY2.out, rfl⟩
      have hno : isOfB s[k] = false := by rw [HO.out, Bool.eq_false_iff]; intro hh; simp only [Bool.or_eq_true, Bool.and_eq_true, decide_eq_true_eq] at hh; omega
      have HM2 := hid (HM.out hno)
      clear HM HO HY hno
      have f0 : ¬ (s[k].toNat : Int) < 97 := by omega
      have f1 : 122 < (s[k].toNat : Int) := by omega
      have f2 : ¬ (s[k].toNat : Int) < 48 := by omega
      have f3 : 57 < (s[k].toNat : Int) := by omega
      have f4 : ¬ (s[k].toNat : Int) = 45 := by omega
      go_wp2_with fail
      go_ret
      exact ⟨ret_bool (by rw [HB.out, HM2.out]), rfl⟩
    · have hlt' : ¬ (k : Int) < (s.size : Int) := by omega
      go_wp2_with fail
      go_ret
      have hn := HK.out
      rw [List.take_of_length_le (by simp; omega)] at hn
      exact ⟨ret_bool (by rw [HB.out, hn]), rfl⟩
end Go.Proofs.YtcffomhcmilcpaaGreat
