/- rises: from one state to the next. -/
import Derived.Test.YtcffomhcmilcpaaGreatC22
import Derived.Test.YtcffomhcmilcpaaGreatC25
import Derived.Test.YtcffomhcmilcpaaGreatC21
import Derived.Test.YtcffomhcmilcpaaGreatC30
import Derived.Test.YtcffomhcmilcpaaGreatC10
set_option maxRecDepth 100000
set_option maxHeartbeats 20000000
set_option linter.unusedVariables false
set_option linter.unusedSimpArgs false
namespace Go.Proofs.YtcffomhcmilcpaaGreat
open Go.RowKit Go.Maps

theorem Img.kept {w w1:World} {Z:Nat→Prop} {q:Nat} {I:Im} (h:Img w Z q I) (hk:∀ k,Z k→w1.heap[k]?=w.heap[k]?) (hs:w.heap.size≤w1.heap.size):Img w1 Z q I:=by
 obtain ⟨L,b,vt,vp,ve,ps,h1,h2,h3,h4⟩:=h
 exact ⟨L,b,vt,vp,ve,ps,h1.kept (fun k hk'=>hk k (h2 k hk')) (fun k hk'=>hk k (h3 k hk')) hs,h2,h3,fun k hk'=>Nat.lt_of_lt_of_le (h4 k hk') hs⟩
theorem Img.lt {w:World} {Z:Nat→Prop} {q:Nat} {I:Im} (h:Img w Z q I):∀ k,Z k→k<w.heap.size:=by
 obtain ⟨L,b,vt,vp,ve,ps,h1,h2,h3,h4⟩:=h
 exact h4
def Two (w U:World) (q1 q2:Nat) (I J:Im) (X:Nat→Prop):Prop :=
 ∃ Z1 Z2:Nat→Prop,Img U Z1 q1 I∧Img U Z2 q2 J∧(∀ k,Z1 k→w.heap.size≤k∧¬ X k∧¬ Z2 k)∧(∀ k,Z2 k→w.heap.size≤k∧¬ X k)∧Below w.heap.size w U∧ImSum I∧ImSum J
theorem Two.under {w U U1:World} {q1 q2:Nat} {I J:Im} {X:Nat→Prop} (h:Two w U q1 q2 I J X) (hb:Below U.heap.size U U1):Two w U1 q1 q2 I J X:=by
 obtain ⟨Z1,Z2,h1,h2,h3,h4,h5,h6⟩:=h
 exact ⟨Z1,Z2,h1.under hb,h2.under hb,h3,h4,h5.trans (hb.mono h5.size),h6⟩
theorem Two.more {w U:World} {q1 q2:Nat} {I J:Im} {X Y:Nat→Prop} (h:Two w U q1 q2 I J X) (hY:∀ k,Y k→X k∨U.heap.size≤k):Two w U q1 q2 I J Y:=by
 obtain ⟨Z1,Z2,h1,h2,h3,h4,h5,h6⟩:=h
 refine ⟨Z1,Z2,h1,h2,fun k hk=>⟨(h3 k hk).1,fun hy=>?_,(h3 k hk).2.2⟩,fun k hk=>⟨(h4 k hk).1,fun hy=>?_⟩,h5,h6⟩
 ·rcases hY k hy with e | e
  ·exact (h3 k hk).2.1 e
  ·have:=h1.lt k hk;omega
 ·rcases hY k hy with e | e
  ·exact (h4 k hk).2 e
  ·have:=h2.lt k hk;omega
theorem Two.below {w U:World} {q1 q2:Nat} {I J:Im} {X:Nat→Prop} (h:Two w U q1 q2 I J X):Below w.heap.size w U:=by
 obtain ⟨Z1,Z2,h1,h2,h3,h4,h5,h6⟩:=h
 exact h5
theorem Two.ok {w U:World} {q1 q2:Nat} {I J:Im} {X:Nat→Prop} (h:Two w U q1 q2 I J X):ImOk I:=by
 obtain ⟨Z1,Z2,h1,h2,h3,h4,h5,h6⟩:=h
 exact h1.ok
theorem Two.new (w:World) {U U1 U2:World} (hb:Below w.heap.size w U) (h:Img U1 (fun k=>k=U.heap.size∨k=U.heap.size+1) (U.heap.size+1) Im.new) (hb1:Below U.heap.size U U1) (h2:Img U2 (fun k=>k=U1.heap.size∨k=U1.heap.size+1) (U1.heap.size+1) Im.new) (hb2:Below U1.heap.size U1 U2):Two w U2 (U.heap.size+1) (U1.heap.size+1) Im.new Im.new (fun _=>False):=by
 have hl:=h.lt
 have e1:=hl U.heap.size (.inl rfl)
 have e2:=hl (U.heap.size+1) (.inr rfl)
 have s1:=hb.size
 have s2:=hb1.size
 refine ⟨_,_,h.under hb2,h2,fun k hk=>⟨by omega,id,fun h=>by omega⟩,fun k hk=>⟨by omega,id⟩,(hb.trans (hb1.mono hb.size)).trans (hb2.mono (by omega)),rfl,rfl⟩
def TwoOut (w U U1:World) (q1 q2:Nat) (I J:Im) (X:Nat→Prop):Prop:=Two w U1 q1 q2 I J X∧(∀ k,X k→U1.heap[k]?=U.heap[k]?)∧U.heap.size≤U1.heap.size
theorem Two.put {w U:World} {q1 q2:Nat} {I J:Im} {X:Nat→Prop} (h:Two w U q1 q2 I J X) (hX:∀ k,X k→k<U.heap.size) (ha:I.applied<1000000000000) {v:Value} {r:Rc} (hr:RecM U v r) (hl:InR (fun k=>k<w.heap.size) v r) :
  Calls Tryz.prog 12 #[.pointer (some ⟨q1,0,none⟩),v] U fun e w'=>e=.returned (.tuple #[.int .i64 (applyI I r).2.1,.int .i64 (applyI I r).2.2])∧TwoOut w U w' q1 q2 (applyI I r).1 J X:=by
 obtain ⟨Z1,Z2,h1,h2,h3,h4,h5,h6,h7⟩:=h
 refine (apply_all h1 hr (fun k a b c d n t lv e=>(hl k a b c d n t lv e).most fun k hk hz=>?_) ha h6).mono ?_
 ·have:=(h3 k hz).1;omega
 rintro e w' ⟨rfl,Z1',i1,i2,i3⟩
 have hs:=sum_do (I:=nextI I) h6 r
 refine ⟨rfl,⟨Z1',Z2,i1,h2.kept (fun k hk=>i3.block k (h2.lt k hk) (fun hz=>(h3 k hz).2.2 hk)) i3.size,fun k hk=>?_,h4,h5.trans (i3.below h5.size (fun k hk=>(h3 k hk).1)),hs,h7⟩,fun k hk=>i3.block k (hX k hk) (fun hz=>(h3 k hz).2.1 hk),i3.size⟩
 rcases i2 k hk with e | e
 ·exact h3 k e
 ·exact ⟨Nat.le_trans h5.size e,fun hx=>by have:=hX k hx;omega,fun hz=>by have:=h2.lt k hz;omega⟩
theorem Two.parts {w U:World} {q1 q2:Nat} {I J:Im} {X:Nat→Prop} (h:Two w U q1 q2 I J X):Calls Tryz.prog 23 #[.pointer (some ⟨q1,0,none⟩)] U fun e w'=>(∃ v,e=.returned v∧PartsAt U.heap.size w' v I.parts)∧Below U.heap.size U w'∧Two w w' q1 q2 I J X:=by
 obtain ⟨Z1,Z2,h1,r⟩:=id h
 refine (parts_any h1).mono ?_
 rintro e w' ⟨v,rfl,a,hb⟩
 exact ⟨⟨v,rfl,a⟩,hb,h.under hb⟩
theorem Two.keep {w U:World} {q1 q2:Nat} {I J:Im} {X:Nat→Prop} (h:Two w U q1 q2 I J X):Calls Tryz.prog 17 #[.pointer (some ⟨q1,0,none⟩)] U fun e w'=>e=.returned (.string (W.strOf (keepI I)))∧Below U.heap.size U w':=by
 obtain ⟨Z1,Z2,h1,r⟩:=id h
 exact keep_any h1
theorem PartsAt.kept {B:Nat} {w w1:World} {v:Value} {P:List Pt} (h:PartsAt B w v P) (hb:∀ k,B≤k→k<w.heap.size→w1.heap[k]?=w.heap[k]?) (hs:w.heap.size≤w1.heap.size):PartsAt B w1 v P:=by
 obtain ⟨ds,h1,h2,h3,h4⟩:=h
 refine ⟨ds,h1,row_kept h2 (fun k hk=>?_),fun x hx=>?_,h4⟩
 ·have hlt:=row_lt h2 hk
  rw [h4] at hk
  cases hk
  exact hb B (Nat.le_refl _) hlt
 ·obtain ⟨g1,g2⟩:=h3 x hx
  exact ⟨g1.kept (g2.and g1.old) (fun k hk=>hb k (by omega) hk.2) hs,g2⟩
theorem PartsAt.under {B:Nat} {w w1:World} {v:Value} {P:List Pt} (h:PartsAt B w v P) (hb:Below w.heap.size w w1):PartsAt B w1 v P:=h.kept (fun k _ hk=>hb.block k hk) hb.size
theorem strOf_self (s:ByteArray):W.strOf s.data.toList=s:=by cases s;simp [W.strOf]
theorem ptext_good {w:World} {x:Nat} {t l:List UInt8} (h:W.Pd w x ⟨W.textL t++l,false⟩) (most:Int) (hm:(t.length:Int)≤most) (hm2:most≤1000) :
  Calls Tryz.prog 92 #[.pointer (some ⟨x,0,none⟩),.int .i64 most] w fun e w'=>e=.returned (.string (W.strOf t))∧W.Pd w' x ⟨l,false⟩∧w.grownBy w' (some x):=by
 have H50:=hid (W.pcount_any h most (by omega))
 have e1:W.countS most ⟨W.textL t++l,false⟩=((t.length:Int),⟨t++l,false⟩):=by
  unfold W.textL
  rw [List.append_assoc]
  exact W.countS_intL most (t.length:Int) (t++l) ⟨by omega,by omega⟩ (by omega) hm
 rw [e1] at H50
 have hll:l.length≤maxLen:=by have:=h.len;simp only [List.length_append] at this;omega
 simp only at H50
 clear h e1
 have hsz:=W.strOf_size (t++l)
 have h1:¬ (((t++l).length:Int)<(t.length:Int)):=by simp only [List.length_append];push_cast;omega
 have h1':¬ (((W.strOf (t++l)).size:Int)<(t.length:Int)):=by rw [hsz];exact h1
 have hx1:=W.extract_drop (t++l) t.length
 have hx2:=W.extract_take (t++l) t.length
 have ed:(t++l).drop t.length=l:=by simp
 have et:(t++l).take t.length=t:=by simp
 rw [ed] at hx1
 rw [et] at hx2
 have hbn:t.length≤(t++l).length:=by simp
 have HT:=hid (fun U=>sclone_any (W.strOf t) U (by rw [W.strOf_size];omega))
 generalize t++l=tl at *
 have hbn':(t.length:Int)≤(tl.length:Int):=by omega
 clear ed et
 go_enter Tryz.func92,Tryz.ntmps92
 go_wp2_with (go_at_call 90;refine H50.out.mono ?_;rintro e w1 ⟨rfl,hr1,hg1⟩;have d0:=hr1.c0;have hl1:=hr1.len;unfold maxLen at hl1)
 refine (HT.out _).mono ?_
 rintro e w2 ⟨rfl,hb2⟩
 have hr2:=hr1.kept (hb2.block x hr1.lt)
 have e0:=hr2.c0
 have f0:=hr2.f 0
 have HD:=hid (hr2.set0 l hll)
 have hg2:=hid ((hg1.trans (W.grown_below hb2)).trans (Lib.grownBy_setCell w2 x 0 (.string (W.strOf l))))
 clear hb2 hr1 d0
 go_wp2_with fail
 go_ret
 exact ⟨rfl,HD.out,hg2.out⟩
theorem pread_any (l:List UInt8) (w:World) (hl:l.length≤maxLen):Calls Tryz.prog 42 #[.string (W.strOf l)] w fun e w'=>e=.returned (.pointer (some ⟨w.heap.size,0,none⟩))∧W.Pd w' w.heap.size ⟨l,false⟩∧Below w.heap.size w w':=by
 have HP:Hid (W.Pd (w.alloc (.cells #[.string (W.strOf l),.bool false] 115)) w.heap.size ⟨l,false⟩):=⟨heap_alloc_new _ _,hl⟩
 go_enter Tryz.func42,Tryz.ntmps42
 go_wp2_with fail
 go_ret
 exact ⟨rfl,HP.out,(Below.refl _ _).alloc (Nat.le_refl _) _⟩
def LS (w U:World) (Z:Nat→Prop) (q x:Nat) (I:Im) (l:List UInt8):Prop :=
 (Img U Z q I∧∀ k,Z k→w.heap.size≤k∧k≠x)∧W.Pd U x ⟨l,false⟩∧w.heap.size≤x∧Below w.heap.size w U
def LO (w U U1:World) (Z:Nat→Prop) (q x:Nat) (I:Im) (l:List UInt8):Prop:=LS w U1 Z q x I l∧Keeps (fun k=>k=x) U U1
theorem LS.lt {w U:World} {Z:Nat→Prop} {q x:Nat} {I:Im} {l:List UInt8} (h:LS w U Z q x I l):x<U.heap.size:=h.2.1.lt
theorem LS.ok {w U:World} {Z:Nat→Prop} {q x:Nat} {I:Im} {l:List UInt8} (h:LS w U Z q x I l):ImOk I:=by
 obtain ⟨⟨h1,_⟩,_⟩:=h
 exact h1.ok
theorem LS.below {w U:World} {Z:Nat→Prop} {q x:Nat} {I:Im} {l:List UInt8} (h:LS w U Z q x I l):Below w.heap.size w U:=h.2.2.2
theorem LS.grown {w U U1:World} {Z:Nat→Prop} {q x:Nat} {I:Im} {l l1:List UInt8} (h:LS w U Z q x I l) (hp:W.Pd U1 x ⟨l1,false⟩) (hg:U.grownBy U1 (some x)):LO w U U1 Z q x I l1:=by
 obtain ⟨⟨h1,h2⟩,h3,h4,h5⟩:=h
 refine ⟨⟨⟨h1.kept (fun k hk=>hg.block k (h1.lt k hk) (fun e=>(h2 k hk).2 (by cases e;rfl))) hg.size,h2⟩,hp,h4,h5.grown hg h5.size (fun k hk=>by cases hk;exact h4)⟩,Keeps.of_grown hg (fun k e=>by cases e;rfl)⟩
theorem LS.under {w U U1:World} {Z:Nat→Prop} {q x:Nat} {I:Im} {l:List UInt8} (h:LS w U Z q x I l) (hb:Below U.heap.size U U1):LS w U1 Z q x I l:=by
 obtain ⟨⟨h1,h2⟩,h3,h4,h5⟩:=h
 exact ⟨⟨h1.under hb,h2⟩,h3.kept (hb.block x h3.lt),h4,h5.trans (hb.mono h5.size)⟩
theorem LS.int {w U:World} {Z:Nat→Prop} {q x:Nat} {I:Im} {l:List UInt8} {n:Int} (hn:I64 n) (h:LS w U Z q x I (W.intL n++l)) :
  Calls Tryz.prog 43 #[.pointer (some ⟨x,0,none⟩)] U fun e w'=>e=.returned (.int .i64 n)∧LO w U w' Z q x I l:=by
 have:=W.pnum_any h.2.1
 rw [W.numS_intL n l hn] at this
 refine this.mono ?_
 rintro e w' ⟨rfl,hp,hg⟩
 exact ⟨rfl,h.grown hp hg⟩
theorem LS.count {w U:World} {Z:Nat→Prop} {q x:Nat} {I:Im} {l:List UInt8} {n most:Int} (hn:0≤n∧n≤most) (hm:most≤1000000) (h:LS w U Z q x I (W.intL n++l)) :
  Calls Tryz.prog 90 #[.pointer (some ⟨x,0,none⟩),.int .i64 most] U fun e w'=>e=.returned (.int .i64 n)∧LO w U w' Z q x I l:=by
 have:=W.pcount_any h.2.1 most (by omega)
 rw [W.countS_intL most n l ⟨by omega,by omega⟩ hn.1 hn.2] at this
 refine this.mono ?_
 rintro e w' ⟨rfl,hp,hg⟩
 exact ⟨rfl,h.grown hp hg⟩
theorem LS.text {w U:World} {Z:Nat→Prop} {q x:Nat} {I:Im} {l:List UInt8} {s:ByteArray} {most:Int} (hm:(s.size:Int)≤most) (hm2:most≤1000) (h:LS w U Z q x I (W.textL s.data.toList++l)) :
  Calls Tryz.prog 92 #[.pointer (some ⟨x,0,none⟩),.int .i64 most] U fun e w'=>e=.returned (.string s)∧LO w U w' Z q x I l:=by
 refine (ptext_good h.2.1 most (by simpa using hm) hm2).mono ?_
 rintro e w' ⟨rfl,hp,hg⟩
 rw [strOf_self]
 exact ⟨rfl,h.grown hp hg⟩
theorem LS.done {w U:World} {Z:Nat→Prop} {q x:Nat} {I:Im} (h:LS w U Z q x I []):Calls Tryz.prog 48 #[.pointer (some ⟨x,0,none⟩)] U fun e w'=>e=.returned (.bool true)∧U=w':=W.pdone_any h.2.1
theorem LO.trans {w U U1 U2:World} {Z:Nat→Prop} {q x:Nat} {I J:Im} {l l1:List UInt8} (h:LO w U U1 Z q x I l) (k:LO w U1 U2 Z q x J l1):LO w U U2 Z q x J l1:=⟨k.1,h.2.trans k.2 (fun y hy=>.inl hy)⟩
theorem keeps_il {U U1:World} {x:Nat} {v:Value} {ns:List Int} {B:Nat} (hk:Keeps (fun k=>k=x) U U1) (hi:IL U v ns) (hin:In (fun b=>B≤b) v ns) (hx:x<B):IL U1 v ns:=by
 have h2:In (fun b=>B≤b∧b<U.heap.size) v ns:=fun hn b off n c e=>⟨hin hn b off n c e,IL.old hi hn b off n c e⟩
 exact hi.kept h2 (fun k hk'=>hk.block k hk'.2 (by omega)) hk.size
end Go.Proofs.YtcffomhcmilcpaaGreat
