/- The document's small functions. -/
import Derived.Test.YtcffomhcmilcpaaGreatC19
import Derived.Lib.BufferWrite
import Derived.Test.YtcffomhcmilcpaaGreatC18
import Derived.Test.YtcffomhcmilcpaaGreatC17
set_option maxRecDepth 100000
set_option maxHeartbeats 20000000
set_option linter.unusedVariables false
set_option linter.unusedSimpArgs false
namespace Go.Proofs.YtcffomhcmilcpaaGreat.W
open Go.RowKit Go.Maps
theorem rcrc_any (s:ByteArray) (w:World) (hs:s.size≤maxLen) :
  Calls Tryz.prog 103 #[.string s] w fun e w'=>e=.returned (.int .i64 (crcL s.data.toList:Nat))∧w=w':=by
 unfold maxLen at hs
 go_enter Tryz.func103,Tryz.ntmps103
 go_wp2
 go_loop [3,4] (fun c i=>∃ k:Nat,k≤s.size∧i=.int .i64 k∧c=.int .u32 ((crcRun 4294967295 (s.data.toList.take k):Nat):Int)) (fun _ i=>s.size - (intOf i).toNat)
 case atStart=>exact ⟨0,Nat.zero_le _,rfl,rfl⟩
 case round =>
  obtain ⟨k,hk,rfl,rfl⟩:=hrel
  have hc:=crcRun_lt (s.data.toList.take k) 4294967295 (by omega)
  by_cases hlt:k<s.size
  ·have hsn:Hid (crcRun 4294967295 (s.data.toList.take (k+1))=crcByte (crcRun 4294967295 (s.data.toList.take k)) s[k]):=by show _=_;rw [take_snoc s k hlt,crcRun_snoc]
   generalize hC:crcRun 4294967295 (s.data.toList.take k)=C at *
   have hb:=s[k].toNat_lt
   have hx:=u32_xor_nat C s[k].toNat hc (by omega)
   clear hC
   go_wp2
   have hX:=xor_lt C s[k].toNat hc (by omega)
   go_loop [3,5] (fun c j=>∃ m:Nat,m≤8∧j=.int .i64 m∧c=.int .u32 ((crcBits m (C ^^^ s[k].toNat):Nat):Int)) (fun _ j=>8 - (intOf j).toNat)
   case atStart=>exact ⟨0,Nat.zero_le _,rfl,rfl⟩
   case round =>
    obtain ⟨m,hm,rfl,rfl⟩:=hrel
    have hD:=crcBits_lt (C ^^^ s[k].toNat) hX m
    by_cases hm8:m<8
    ·have hst:Hid (crcBits (m+1) (C ^^^ s[k].toNat)=crcBit (crcBits m (C ^^^ s[k].toNat))):=rfl
     clear hx
     generalize crcBits m (C ^^^ s[k].toNat)=D at *
     have hh:=u32_xor_nat (D / 2) 2197175160 (by omega) (by omega)
     rw [show (((D / 2:Nat):Int))=(D:Int) / 2 by omega,show (((2197175160:Nat):Int))=2197175160 by rfl] at hh
     have hm8':(m:Int)<8:=by omega
     by_cases hodd:D % 2=1
     ·have hst2:Hid (crcBits (m+1) (C ^^^ s[k].toNat)=(D / 2) ^^^ 2197175160):=by show _=_;rw [hst.out,crcBit,if_pos hodd]
      have ha:(D:Int) % 2=1:=by omega
      go_wp2
      go_round
      case rel=>exact ⟨m+1,by omega,by go_num,by rw [hst2.out]⟩
      case measure=>simp [intOf];omega
     ·have hst2:Hid (crcBits (m+1) (C ^^^ s[k].toNat)=D / 2):=by show _=_;rw [hst.out,crcBit,if_neg hodd]
      have ha:(D:Int) % 2=0:=by omega
      go_wp2
      go_round
      case rel=>exact ⟨m+1,by omega,by go_num,by rw [hst2.out];go_num⟩
      case measure=>simp [intOf];omega
    ·have hm8':¬ (m:Int)<8:=by omega
     have hm9:m=8:=by omega
     subst hm9
     go_wp2
     go_round
     case rel=>exact ⟨k+1,by omega,by go_num,by rw [hsn.out];rfl⟩
     case measure=>simp [intOf];omega
  ·have he:s.data.toList.take k=s.data.toList:=List.take_of_length_le (by simp;omega)
   have hx:bits .xor .u32 ((crcRun 4294967295 (s.data.toList.take k):Nat):Int) 4294967295=((crcL s.data.toList:Nat):Int):=by
    rw [he,show (4294967295:Int)=((4294967295:Nat):Int) by rfl,u32_xor_nat _ _ (by rw [← he];exact hc) (by omega)];rfl
   have hcl:=crcL_lt s.data.toList
   have hlt':¬ (k:Int)<(s.size:Int):=by omega
   clear he
   go_wp2
   go_ret
   exact ⟨rfl,rfl⟩
theorem rint_any (n:Int) (w:World) (hn:I64 n):Calls Tryz.prog 58 #[.int .i64 n] w fun e w'=>e=.returned (.string (strOf (intL n)))∧Below w.heap.size w w':=by
 obtain ⟨i0,hi0,hz0,hz1,hz2⟩:=info5
 have hz:=zz_lt n hn.1 hn.2
 have H0:Hid (IntAt w w.heap.size (.slice none 0 0) (intL n) 0 (zz n) [] (.slice none 0 0) w):=⟨Row.nil _ _,by simp,rfl,hz,.refl _ _,.refl _ _⟩
 have htl:Hid ((intL n).length≤10):=(intL_length n).2
 obtain ⟨h1,h2⟩:=hn
 by_cases hneg:n<0
 ·go_enter Tryz.func58,Tryz.ntmps58
  go_wp2
  go_loopg [3,4] 10 (fun kx s3 s4 wr=>∃ (k z:Nat) (sv:Value) (m:List UInt8),k≤9∧10 - k≤kx∧s3=.int .u64 z∧sv=s4∧Hid (IntAt w w.heap.size (.slice none 0 0) (intL n) k z m sv wr))
  case atStart=>exact ⟨0,zz n,_,[],by omega,by omega,by rw [rz_neg n h1 hneg],rfl,H0⟩
  case round =>
   obtain ⟨k,z,sv,m,hk,hkx,rfl,rfl,HD⟩:=hrel
   have hml:m.length≤10:=Nat.le_trans HD.out.len htl.out
   have hwr:w.heap.size≤wr.heap.size:=HD.out.below.size
   have HR:Hid (∀ O,(wr.alloc O).ownsRow w.heap.size 5 1 sv m.length (u8c m)):=fun O=>HD.out.row.alloc O
   clear H0 htl
   by_cases hzs:z<128
   ·have hzs':¬ 128≤(z:Int):=by omega
    go_wp2_with (at_builtin;refine wpList_append_own_at _ rfl _ _ 46 rfl w.heap.size 5 i0 _ 1 1 Tryz.underlying46 hi0 hz0 hz1 hz2 rfl (by decide) _ m.length (u8c m) rfl (HR.out _) ⟨wr.heap.size,0,none⟩ 1 1 [.int .u8 (z:Int)] rfl rfl (one_cell rfl) (by simp [Value.oneCell']) (by unfold maxLen;omega) (by omega) (by simp;omega) ?_;intro v' w2 hown2 hg2 _ hat;have HF:=HD.out.last (Nat.le_refl _) hzs _ v' w2 hown2 hg2 hat;have hcv:=HF.1.conv;obtain ⟨a,cap,hv⟩:=HF.1.shape;rw [hv] at hcv ⊢)
    go_ret
    exact ⟨rfl,HF.2.1⟩
   ·have hzs':128≤(z:Int):=by omega
    have hk9:k<9:=by
     rcases Nat.lt_or_ge k 9 with h | h
     ·exact h
     ·have:=HD.out.small;rw [show 9 - k=0 by omega] at this;simp at this;omega
    have hz64:(z:Int)<18446744073709551616:=by have:=HD.out.lt64;omega
    have hX:Hid ((z:Int) % 128+128=((z % 128+128:Nat):Int)):=by show _=_;omega
    go_wp2_with (at_builtin;refine wpList_append_own_at _ rfl _ _ 46 rfl w.heap.size 5 i0 _ 1 1 Tryz.underlying46 hi0 hz0 hz1 hz2 rfl (by decide) _ m.length (u8c m) rfl (HR.out _) ⟨wr.heap.size,0,none⟩ 1 1 [.int .u8 ((z:Int) % 128+128)] rfl rfl (one_cell rfl) (by simp [Value.oneCell']) (by unfold maxLen;omega) (by omega) (by simp;omega) ?_;intro v' w2 hown2 hg2 _ hat)
    have HF:=HD.out.next (Nat.le_refl _) hk9 hzs _ hX.out _ v' w2 hown2 hg2 hat
    go_roundg (10 - (k+1))
    case measure=>omega
    case rel=>exact ⟨k+1,z / 128,v',_,by omega,Nat.le_refl _,by go_num,rfl,HF⟩
 ·go_enter Tryz.func58,Tryz.ntmps58
  go_wp2
  go_loopg [3,4] 10 (fun kx s3 s4 wr=>∃ (k z:Nat) (sv:Value) (m:List UInt8),k≤9∧10 - k≤kx∧s3=.int .u64 z∧sv=s4∧Hid (IntAt w w.heap.size (.slice none 0 0) (intL n) k z m sv wr))
  case atStart=>exact ⟨0,zz n,_,[],by omega,by omega,by rw [rz_pos n (by omega)],rfl,H0⟩
  case round =>
   obtain ⟨k,z,sv,m,hk,hkx,rfl,rfl,HD⟩:=hrel
   have hml:m.length≤10:=Nat.le_trans HD.out.len htl.out
   have hwr:w.heap.size≤wr.heap.size:=HD.out.below.size
   have HR:Hid (∀ O,(wr.alloc O).ownsRow w.heap.size 5 1 sv m.length (u8c m)):=fun O=>HD.out.row.alloc O
   clear H0 htl
   by_cases hzs:z<128
   ·have hzs':¬ 128≤(z:Int):=by omega
    go_wp2_with (at_builtin;refine wpList_append_own_at _ rfl _ _ 46 rfl w.heap.size 5 i0 _ 1 1 Tryz.underlying46 hi0 hz0 hz1 hz2 rfl (by decide) _ m.length (u8c m) rfl (HR.out _) ⟨wr.heap.size,0,none⟩ 1 1 [.int .u8 (z:Int)] rfl rfl (one_cell rfl) (by simp [Value.oneCell']) (by unfold maxLen;omega) (by omega) (by simp;omega) ?_;intro v' w2 hown2 hg2 _ hat;have HF:=HD.out.last (Nat.le_refl _) hzs _ v' w2 hown2 hg2 hat;have hcv:=HF.1.conv;obtain ⟨a,cap,hv⟩:=HF.1.shape;rw [hv] at hcv ⊢)
    go_ret
    exact ⟨rfl,HF.2.1⟩
   ·have hzs':128≤(z:Int):=by omega
    have hk9:k<9:=by
     rcases Nat.lt_or_ge k 9 with h | h
     ·exact h
     ·have:=HD.out.small;rw [show 9 - k=0 by omega] at this;simp at this;omega
    have hz64:(z:Int)<18446744073709551616:=by have:=HD.out.lt64;omega
    have hX:Hid ((z:Int) % 128+128=((z % 128+128:Nat):Int)):=by show _=_;omega
    go_wp2_with (at_builtin;refine wpList_append_own_at _ rfl _ _ 46 rfl w.heap.size 5 i0 _ 1 1 Tryz.underlying46 hi0 hz0 hz1 hz2 rfl (by decide) _ m.length (u8c m) rfl (HR.out _) ⟨wr.heap.size,0,none⟩ 1 1 [.int .u8 ((z:Int) % 128+128)] rfl rfl (one_cell rfl) (by simp [Value.oneCell']) (by unfold maxLen;omega) (by omega) (by simp;omega) ?_;intro v' w2 hown2 hg2 _ hat)
    have HF:=HD.out.next (Nat.le_refl _) hk9 hzs _ hX.out _ v' w2 hown2 hg2 hat
    go_roundg (10 - (k+1))
    case measure=>omega
    case rel=>exact ⟨k+1,z / 128,v',_,by omega,Nat.le_refl _,by go_num,rfl,HF⟩
theorem rfour_any (n:Nat) (w:World) (h:n<4294967296):Calls Tryz.prog 102 #[.int .i64 (n:Int)] w fun e w'=>e=.returned (.string (strOf (fourL n)))∧Below w.heap.size w w':=by
 have hcv:=four_conv w n h
 go_enter Tryz.func102,Tryz.ntmps102
 go_wp2
 go_ret
 exact ⟨rfl,(Below.refl _ _).alloc (Nat.le_refl _) _⟩
structure Pd (w:World) (q:Nat) (s:RS):Prop where
 box:w.heap[q]?=some (.cells #[.string (strOf s.rest),.bool s.wrong] 115)
 len:s.rest.length≤maxLen
theorem Pd.c0 {w:World} {q:Nat} {s:RS} (h:Pd w q s):w.cell? ⟨q,0,none⟩=some (.string (strOf s.rest)):=cell_blk h.box 0 _ rfl
theorem Pd.c1 {w:World} {q:Nat} {s:RS} (h:Pd w q s):w.cell? ⟨q,1,none⟩=some (.bool s.wrong):=cell_blk h.box 1 _ rfl
theorem Pd.f {w:World} {q:Nat} {s:RS} (h:Pd w q s) (j:Nat):w.frozen? ⟨q,j,none⟩=false:=frozen_blk h.box j
theorem Pd.lt {w:World} {q:Nat} {s:RS} (h:Pd w q s):q<w.heap.size:=by
 rcases Nat.lt_or_ge q w.heap.size with h1 | h1
 ·exact h1
 ·have:=h.box;rw [Array.getElem?_eq_none h1] at this;cases this
theorem Pd.set0 {w:World} {q:Nat} {s:RS} (h:Pd w q s) (l:List UInt8) (hl:l.length≤maxLen):Pd (w.setCell ⟨q,0,none⟩ (.string (strOf l))) q ⟨l,s.wrong⟩:=by
 refine ⟨?_,hl⟩
 rw [setCell_eq_setRow w q 0 _ 115 (0,0) _ h.box,setRow_heap w q _ _ 115 (0,0) h.box]
 rfl
theorem Pd.spoil {w:World} {q:Nat} {s:RS} (h:Pd w q s):Pd ((w.setCell ⟨q,0,none⟩ (.string ⟨#[]⟩)).setCell ⟨q,1,none⟩ (.bool true)) q spoiled:=by
 have h1:=h.set0 [] (by simp)
 refine ⟨?_,by simp [spoiled]⟩
 have h1b:=h1.box
 have e:(Value.string (strOf []))=.string ⟨#[]⟩:=rfl
 rw [e] at h1b
 rw [setCell_eq_setRow _ q 1 _ 115 (0,0) _ h1b,setRow_heap _ q _ _ 115 (0,0) h1b]
 rfl
theorem Pd.kept {w w':World} {q:Nat} {s:RS} (h:Pd w q s) (hb:w'.heap[q]?=w.heap[q]?):Pd w' q s:=⟨hb.trans h.box,h.len⟩
theorem pspoil_any {w:World} {q:Nat} {s:RS} (h:Pd w q s):Calls Tryz.prog 89 #[.pointer (some ⟨q,0,none⟩)] w fun e w'=>e=.returned (.tuple #[])∧Pd w' q spoiled∧w.grownBy w' (some q):=by
 have c0:=h.c0
 have c1:=h.c1
 have f0:=h.f 0
 have f1:=h.f 1
 have HF:Hid (Pd ((w.setCell ⟨q,0,none⟩ (.string ⟨#[]⟩)).setCell ⟨q,1,none⟩ (.bool true)) q spoiled∧w.grownBy ((w.setCell ⟨q,0,none⟩ (.string ⟨#[]⟩)).setCell ⟨q,1,none⟩ (.bool true)) (some q)) :=
  ⟨h.spoil,(Lib.grownBy_setCell w q 0 _).trans (Lib.grownBy_setCell _ q 1 _)⟩
 clear h
 go_enter Tryz.func89,Tryz.ntmps89
 go_wp2
 go_end0
 exact ⟨rfl,HF.out⟩
theorem pnum_any {w:World} {q:Nat} {s:RS} (h:Pd w q s):Calls Tryz.prog 43 #[.pointer (some ⟨q,0,none⟩)] w fun e w'=>e=.returned (.int .i64 (numS s).1)∧Pd w' q (numS s).2∧w.grownBy w' (some q):=by
 have c0:=h.c0
 have f0:=h.f 0
 have H10:=hid (readInt_any (strOf s.rest) w (by rw [strOf_size];exact h.len))
 rw [strOf_data] at H10
 have HS:=hid (pspoil_any h)
 have hlen:=h.len
 unfold maxLen at hlen
 have hrg:=readL_range s.rest
 have HH:=hid h
 have HN:Hid (numS s=if (readL s.rest).2.2=0 then ((readL s.rest).1,⟨s.rest.drop (readL s.rest).2.1,s.wrong⟩) else (0,spoiled)):=rfl
 clear h
 have hsz:=strOf_size s.rest
 generalize readL s.rest=R at *
 obtain ⟨n,k,e⟩:=R
 simp only at *
 obtain ⟨hn,hk,_⟩:=hrg
 by_cases he:e=0
 ·subst he
  have hx:=extract_drop s.rest k
  have HF:Hid (numS s=(n,⟨s.rest.drop k,s.wrong⟩)):=by show _=_;rw [HN.out,if_pos rfl]
  have hk':(k:Int)≤((strOf s.rest).size:Int):=by rw [hsz];omega
  have HD:=hid (HH.out.set0 (s.rest.drop k) (by simp;unfold maxLen;omega))
  go_enter Tryz.func43,Tryz.ntmps43
  go_wp2_with (go_at_call 88;refine H10.out.mono ?_;rintro e w' ⟨rfl,rfl⟩)
  go_ret
  exact ⟨by rw [HF.out];rfl,by rw [HF.out];exact HD.out,Lib.grownBy_setCell _ q 0 _⟩
 ·have hne:(e != 0)=true:=by simp [he]
  have HF:Hid (numS s=(0,spoiled)):=by show _=_;rw [HN.out,if_neg he]
  clear he
  go_enter Tryz.func43,Tryz.ntmps43
  go_wp2_with (first | (go_at_call 88;refine H10.out.mono ?_;rintro e w' ⟨rfl,rfl⟩) | (go_at_call 89;refine HS.out.mono ?_;rintro e w2 ⟨rfl,hr2,hg2⟩))
  go_ret
  exact ⟨by rw [HF.out];rfl,by rw [HF.out];exact hr2,hg2⟩
theorem pcount_any {w:World} {q:Nat} {s:RS} (h:Pd w q s) (most:Int) (hm:0≤most):Calls Tryz.prog 90 #[.pointer (some ⟨q,0,none⟩),.int .i64 most] w fun e w'=>e=.returned (.int .i64 (countS most s).1)∧Pd w' q (countS most s).2∧w.grownBy w' (some q):=by
 have H54:=hid (pnum_any h)
 have HN:Hid (countS most s=if (numS s).1<0∨most<(numS s).1 then (0,spoiled) else numS s):=rfl
 clear h
 generalize numS s=N at *
 obtain ⟨n,s1⟩:=N
 simp only at *
 by_cases h1:n<0
 ·have HF:Hid (countS most s=(0,spoiled)):=by show _=_;rw [HN.out,if_pos (.inl h1)]
  go_enter Tryz.func90,Tryz.ntmps90
  go_wp2_with (go_at_call 43;refine H54.out.mono ?_;rintro e w1 ⟨rfl,hr1,hg1⟩)
  refine (pspoil_any hr1).mono ?_
  rintro e w2 ⟨rfl,hr2,hg2⟩
  go_wp2
  go_ret
  exact ⟨by rw [HF.out];rfl,by rw [HF.out];exact hr2,hg1.trans hg2⟩
 ·by_cases h2:most<n
  ·have HF:Hid (countS most s=(0,spoiled)):=by show _=_;rw [HN.out,if_pos (.inr h2)]
   go_enter Tryz.func90,Tryz.ntmps90
   go_wp2_with (go_at_call 43;refine H54.out.mono ?_;rintro e w1 ⟨rfl,hr1,hg1⟩)
   refine (pspoil_any hr1).mono ?_
   rintro e w2 ⟨rfl,hr2,hg2⟩
   go_wp2
   go_ret
   exact ⟨by rw [HF.out];rfl,by rw [HF.out];exact hr2,hg1.trans hg2⟩
  ·have HF:Hid (countS most s=(n,s1)):=by show _=_;rw [HN.out,if_neg (by omega)]
   go_enter Tryz.func90,Tryz.ntmps90
   go_wp2_with (go_at_call 43;refine H54.out.mono ?_;rintro e w1 ⟨rfl,hr1,hg1⟩)
   go_ret
   exact ⟨by rw [HF.out];rfl,by rw [HF.out];exact hr1,hg1⟩
theorem Pd.set {w:World} {q:Nat} {s:RS} (h:Pd w q s) (b j:Nat) (v:Value) (hb:q≠b):Pd (w.setCell ⟨b,j,none⟩ v) q s:=h.kept (Below.heap_setCell w ⟨b,j,none⟩ v q hb)
theorem pdone_any {w:World} {q:Nat} {s:RS} (h:Pd w q s):Calls Tryz.prog 48 #[.pointer (some ⟨q,0,none⟩)] w fun e w'=>e=.returned (.bool (doneS s))∧w=w':=by
 have c0:=h.c0
 have c1:=h.c1
 have HN:Hid (doneS s=(!s.wrong && s.rest.isEmpty)):=rfl
 clear h
 obtain ⟨l,wr⟩:=s
 simp only at *
 cases wr with
 | true =>
  go_enter Tryz.func48,Tryz.ntmps48
  go_wp2
  go_ret
  exact ⟨ret_bool (by rw [HN.out];rfl),rfl⟩
 | false =>
  go_enter Tryz.func48,Tryz.ntmps48
  go_wp2
  go_ret
  exact ⟨ret_bool (by rw [HN.out,Lib.toList_data,strOf_data];rfl),rfl⟩
theorem Grow.under {w w1:World} (v:Value) (hb:Below w.heap.size w w1):Grow w w1 v v:=⟨⟨hb.os,hb.tape,hb.output,hb.size,fun k hk _=>hb.block k hk⟩,fun q h=>.inl h⟩
theorem append_str {w:World} {B ty:Nat} {v:Value} {l:List UInt8} (h:Row w B v l) (t:List UInt8) (h63:l.length+t.length≤140737488355328) (hbase:B≤w.heap.size) :
  ∃ v' w',(Builtin.append_ #[46,9] ty #[v,.string (strOf t)]).run Tryz.prog w=.ok v' w'∧Row w' B v' (l++t)∧Below B w w'∧Grow w w' v v':=by
 obtain ⟨i0,hi0,hz0,hz1,hz2⟩:=info5
 have hs:=strOf_size t
 rcases h.2 with ⟨rfl,hn⟩ | ⟨g,cap,cur,rfl,hB,hg,hnc,hcm,hcs,htake⟩
 ·have hl0:l=[]:=List.eq_nil_of_length_eq_zero hn
  subst hl0
  obtain ⟨v',w',hr,h1,h2,h3⟩:=Lib.run_append_own_string (P:=Tryz.prog) w w.heap.size 46 9 ty 5 i0 Tryz.underlying46 Tryz.underlying9 hi0 hz0 hz1 hz2 (.slice none 0 0) 0 [] (World.ownsRow_nil w _ 5 1) (strOf t) (by unfold maxLen;omega) (by omega) (Nat.le_refl _)
  rw [strCells_eq,hs] at h1
  have h1':Row w' w.heap.size v' ([]++t):=Row.of (l:=[]) (m:=t) (by simpa [u8c] using h1)
  exact ⟨v',w',hr,h1'.base hbase,(Below.refl _ _).grown h2 hbase (fun k hk=>by cases hk),h2,fun q hq=>.inr (h1'.own q hq)⟩
 ·obtain ⟨v',w',hr,h1,h2,_⟩:=Lib.run_append_own_string (P:=Tryz.prog) w B 46 9 ty 5 i0 Tryz.underlying46 Tryz.underlying9 hi0 hz0 hz1 hz2 _ l.length (u8c l) h (strOf t) (by unfold maxLen;omega) (by omega) hbase
  have hat:∀ q,v'.ownBlock=some q→(Value.slice (some ⟨g,0,none⟩) l.length cap).ownBlock=some q∨w.heap.size≤q:=by
   by_cases hroom:l.length+(strOf t).size≤cap
   ·have hr2:=Lib.run_append_room_string (P:=Tryz.prog) w 46 9 ty 5 i0 Tryz.underlying46 Tryz.underlying9 hi0 hz1 g l.length cap cur hg (strOf t) hroom (by omega)
    rw [hr] at hr2
    simp only [Result.ok.injEq] at hr2
    rw [hr2.1]
    exact fun q hq=>.inl hq
   ·have holds:∀ j u,(u8c l)[j]?=some u→w.cell? ((⟨g,0,none⟩:Addr).add j)=some u:=World.ownsRow.cells h (g:=g) rfl
    have hr2:=Lib.run_append_grow_string (P:=Tryz.prog) w 46 9 ty 5 i0 (.int .u8 0) Tryz.underlying46 Tryz.underlying9 hi0 hz0 ⟨g,0,none⟩ l.length cap (u8c l) (by rw [hz1];simp [u8c]) holds (strOf t) (by omega) (by omega) (by rw [hz2];exact growslice_fits (by omega) (by omega))
    rw [hr] at hr2
    simp only [Result.ok.injEq] at hr2
    rw [hr2.1]
    intro q hq
    cases hq
    exact .inr (Nat.le_refl _)
  rw [strCells_eq,hs] at h1
  exact ⟨v',w',hr,Row.of h1,(Below.refl _ _).grown h2 hbase h.own,h2,hat⟩
theorem wpList_append_str {w:World} {ops:Array Oper} {rest:List Oper} {o:Oper} {a:Act} {Q:Exit→Act→World→Prop} (hgd:o.guard=none) (sl x:Operand)
  (ho:o.op=.call { callee:=.builtin .append,args:=#[sl,x],argTypes:=#[46,9] }) (B:Nat)
  (v:Value) (l:List UInt8) (hs:a.eval sl=v) (hrow:Row w B v l) (t:List UInt8) (hx:a.eval x=.string (strOf t))
  (h63:l.length+t.length≤140737488355328) (hbase:B≤w.heap.size)
  (h:∀ v' w',Row w' B v' (l++t)→Below B w w'→Grow w w' v v'→wpList Tryz.prog ops Q rest (a.put o.dst v') w'):wpList Tryz.prog ops Q (o :: rest) a w:=by
 refine wpList_plain hgd fun K hK=>?_
 obtain ⟨v',w',hr,h2,h3,h4⟩:=append_str (ty:=o.type) hrow t h63 hbase
 unfold Oper.wp execOp
 simp only [ho,resolve,invoke,builtin,Sem.run_bind,Sem.run_pure,Result.andThen_ok,List.map_toArray,List.map_cons,List.map_nil,hs,hx,hr]
 exact hK _ _ (h v' w' h2 h3 h4)
def IntsIn (w:World) (v:Value) (a:Option Addr) (ns:List Int):Prop:=ns=[]∨∃ b off,a=some ⟨b,off,none⟩∧b<w.heap.size∧v.ownBlock≠some b∧∀ i (h:i<ns.length),w.cell? ⟨b,off+i,none⟩=some (.int .i64 ns[i])
theorem IntsIn.grow {w w1:World} {v v1:Value} {a:Option Addr} {ns:List Int} (h:IntsIn w v a ns) (g:Grow w w1 v v1):IntsIn w1 v1 a ns:=by
 rcases h with h | ⟨b,off,e,hl,hv,hc⟩
 ·exact .inl h
 ·obtain ⟨g1,g2,g3⟩:=g.block hl hv
  exact .inr ⟨b,off,e,g3,g2,fun i hi=>(World.cell?_of_block (a:=⟨b,off+i,none⟩) g1).trans (hc i hi)⟩
theorem IntsIn.at {w:World} {v:Value} {a:Option Addr} {ns:List Int} (h:IntsIn w v a ns) (k:Nat) (hk:k<ns.length):∃ b off,a=some ⟨b,off,none⟩∧w.cell? ⟨b,off+k,none⟩=some (.int .i64 ns[k]):=by
 rcases h with h | ⟨b,off,e,hl,hv,hc⟩
 ·subst h;simp at hk
 ·exact ⟨b,off,e,hc k hk⟩
theorem Row.fresh {w:World} {B:Nat} {v:Value} {l:List UInt8} (h:Row w B v l):v.ownBlock≠some w.heap.size:=fun e=>by
 have:=(World.ownsRow.lt h _ e).2
 omega
theorem appInts_any {w:World} {B:Nat} {v:Value} {l:List UInt8} (h:Row w B v l) (hB:B≤w.heap.size) (a:Option Addr) (cap:Nat) (ns:List Int) (ha:IntsIn w v a ns) (hi:∀ n∈ns,I64 n) (hl:l.length+ns.length*10≤1000000000000) :
  Calls Tryz.prog 49 #[v,.slice a ns.length cap] w fun e w'=>∃ v',e=.returned v'∧Row w' B v' (l++intsL ns)∧Below B w w'∧Grow w w' v v':=by
 have HA:=hid ha
 have HI:=hid hi
 have H0:Hid (Row w B v (l++intsL (ns.take 0))∧Below B w w∧Grow w w v v):=⟨by simpa [intsL] using h,.refl _ _,.refl _ _⟩
 clear h ha hi
 go_enter Tryz.func49,Tryz.ntmps49
 go_wp2
 go_loopg [0,9] ns.length (fun kx s0 s9 wr=>∃ (k:Nat) (sv:Value),k≤ns.length∧ns.length - k≤kx∧s9=.int .i64 k∧sv=s0∧Hid (Row wr B sv (l++intsL (ns.take k))∧Below B w wr∧Grow w wr v sv))
 case atStart=>exact ⟨0,_,by omega,by omega,rfl,rfl,H0⟩
 case round =>
  obtain ⟨k,sv,hk,hkx,rfl,rfl,HD⟩:=hrel
  clear H0
  by_cases hlt:k<ns.length
  ·have hlt':(k:Int)<(ns.length:Int):=by omega
   obtain ⟨b,off,rfl,hc⟩:=(HA.out.grow HD.out.2.2).at k hlt
   have hlen:(l++intsL (ns.take k)).length≤1000000000000:=by
    have:=intsL_length (ns.take k)
    have h2:(ns.take k).length≤ns.length:=by simp;omega
    simp only [List.length_append];omega
   have HC:=hid (int_any ns[k] wr (HI.out _ (List.getElem_mem hlt)))
   have HT:Hid (l++intsL (ns.take (k+1))=l++intsL (ns.take k)++intL ns[k]):=by show _=_;rw [ints_take ns k hlt,List.append_assoc]
   have hZ:=(intL_length ns[k]).2
   generalize ns[k]=N at *
   have hBs:=HD.out.2.1.size
   generalize l++intsL (ns.take k)=L at *
   have HR:=hid HD.out
   clear HD
   go_wp2_with (first | (go_at_call 98;refine HC.out.mono ?_;rintro e w1 ⟨rfl,hb1⟩;have hs1:=hb1.size;have hrow1:=HR.out.1.under (B':=0) hb1) | (at_builtin;refine wpList_append_str rfl _ _ rfl B _ L rfl hrow1 (intL N) rfl (by omega) (by omega) ?_;intro v2 w2 hrow2 hb2 hg2))
   go_roundg (ns.length - (k+1))
   case measure=>omega
   case rel =>
    refine ⟨k+1,v2,by omega,Nat.le_refl _,by go_num,rfl,?_,?_,?_⟩
    ·rw [HT.out];exact hrow2
    ·exact HR.out.2.1.trans ((hb1.mono (by omega)).trans hb2)
    ·exact HR.out.2.2.trans ((Grow.under sv hb1).trans hg2)
  ·have hlt':¬ (k:Int)<(ns.length:Int):=by omega
   have he:ns.take k=ns:=List.take_of_length_le (by omega)
   have HE:=hid HD.out
   rw [he] at HE
   clear he
   go_wp2
   go_ret
   exact ⟨_,rfl,HE.out⟩
end Go.Proofs.YtcffomhcmilcpaaGreat.W
namespace Go.Proofs.YtcffomhcmilcpaaGreat.W
def sealL (t:List UInt8):List UInt8:=fourL (crcL t)++t
structure EOk (l:List (Int × Int)):Prop where
 rise:l.Pairwise (fun x y=>x.1<y.1∧x.2<y.2)
 num:∀ x∈l,(0≤x.1∧x.1≤1000000000)∧(0≤x.2∧x.2≤1000000000)
 few:l.length≤200
theorem sealL_length (t:List UInt8):(sealL t).length=4+t.length:=by simp [sealL,fourL];omega
theorem seal_drop (t:List UInt8):(sealL t).drop 4=t:=rfl
theorem seal_four (t:List UInt8):fourN (sealL t)=crcL t:=fourN_fourL _ _ (crcL_lt t)
structure FoundAt (l:List (Int × Int)) (p:Int × Int→Bool) (r:Nat):Prop where
 le:r≤l.length
 ahead:r=0∨∀ x,l[r - 1]?=some x→p x=false
 at_:r=l.length∨∀ x,l[r]?=some x→p x=true
theorem pair_at {l:List (Int × Int)} (h:l.Pairwise (fun x y=>x.1<y.1∧x.2<y.2)) {i j:Nat} {x y:Int × Int} (hi:l[i]?=some x) (hj:l[j]?=some y) (hij:i<j):x.1<y.1∧x.2<y.2:=by
 obtain ⟨a1,a2⟩:=List.getElem?_eq_some_iff.1 hi
 obtain ⟨b1,b2⟩:=List.getElem?_eq_some_iff.1 hj
 have:=List.pairwise_iff_getElem.1 h i j a1 b1 hij
 rw [a2,b2] at this
 exact this
theorem FoundAt.both {l:List (Int × Int)} {p:Int × Int→Bool} {r:Nat} (f:FoundAt l p r) (h:EOk l) (hp:∀ x y:Int × Int,x.1<y.1∧x.2<y.2→p x=true→p y=true) :
  (∀ (i:Nat) x,l[i]?=some x→(p x=true ↔ r≤i)):=by
 intro i x hx
 have hi:=(List.getElem?_eq_some_iff.1 hx).1
 constructor
 ·intro hpx
  rcases Nat.lt_or_ge i r with hlt | hge
  ·exfalso
   have hr:=f.le
   rcases f.ahead with h0 | h0
   ·omega
   ·have hl:r - 1<l.length:=by omega
    have hy:l[r - 1]?=some l[r - 1]:=by simp [hl]
    have hf:=h0 _ hy
    rcases Nat.lt_or_ge i (r - 1) with h1 | h1
    ·have:=hp x l[r - 1] (pair_at h.rise hx hy h1) hpx
     rw [hf] at this;cases this
    ·have e:i=r - 1:=by omega
     subst e
     rw [hx] at hy
     have:=h0 x hx
     rw [hpx] at this;cases this
  ·exact hge
 ·intro hri
  rcases f.at_ with h0 | h0
  ·omega
  ·have hl:r<l.length:=by omega
   have hy:l[r]?=some l[r]:=by simp [hl]
   have hf:=h0 _ hy
   rcases Nat.lt_or_ge r i with h1 | h1
   ·exact hp l[r] x (pair_at h.rise hy hx h1) hf
   ·have e:i=r:=by omega
    subst e
    exact h0 x hx

end Go.Proofs.YtcffomhcmilcpaaGreat.W
namespace Go.Proofs.YtcffomhcmilcpaaGreat.W
open Go.RowKit Go.Maps
theorem pfour_any (n:Nat) (w:World) (h:n<4294967296):Calls Tryz.prog 100 #[.int .i64 (n:Int)] w fun e w'=>e=.returned (.string (strOf (fourL n)))∧Below w.heap.size w w':=by
 have hcv:=four_conv w n h
 go_enter Tryz.func100,Tryz.ntmps100
 go_wp2
 go_ret
 exact ⟨rfl,(Below.refl _ _).alloc (Nat.le_refl _) _⟩
theorem preadFour_any (s:ByteArray) (w:World) (h4:4≤s.size) (hs:s.size≤maxLen) :
  Calls Tryz.prog 86 #[.string s] w fun e w'=>e=.returned (.int .i64 (fourN s.data.toList:Nat))∧w=w':=by
 unfold maxLen at hs
 go_enter Tryz.func86,Tryz.ntmps86
 go_wp2
 go_loop [3,5] (fun c i=>∃ k:Nat,k≤4∧i=.int .i64 k∧c=.int .i64 (accN (s.data.toList.take k):Nat)) (fun _ i=>4 - (intOf i).toNat)
 case atStart=>exact ⟨0,Nat.zero_le _,rfl,rfl⟩
 case round =>
  obtain ⟨k,hk,rfl,rfl⟩:=hrel
  by_cases hlt:k<4
  ·have hlt':(k:Int)<4:=by omega
   have hA:=accN_lt s k hk (by omega)
   have h3:256 ^ k≤256 ^ 3:=Nat.pow_le_pow_right (by omega) (by omega)
   have hks:k<s.size:=by omega
   have hks':(k:Int)<(s.size:Int):=by omega
   have hsn:Hid (accN (s.data.toList.take (k+1))=accN (s.data.toList.take k)*256+s[k].toNat):=by show _=_;rw [take_snoc s k hks,accN_snoc]
   have hA2:accN (s.data.toList.take k)<16777216:=by omega
   clear hA h3
   generalize accN (s.data.toList.take k)=A at *
   have hb:=s[k].toNat_lt
   have hor:=or_byte A s[k].toNat hA2 (by omega)
   generalize hZ:A*256+s[k].toNat=Z at *
   clear hZ
   go_wp2
   go_round
   case rel=>exact ⟨k+1,by omega,by go_num,by rw [hsn.out]⟩
   case measure=>simp [intOf];omega
  ·have hlt':¬ (k:Int)<4:=by omega
   have hk4:k=4:=by omega
   have HF:=hid (accN_four s.data.toList (by simpa using h4))
   subst hk4
   go_wp2
   go_ret
   exact ⟨ret_int (by rw [HF.out]),rfl⟩
theorem pseal_any (t:List UInt8) (w:World) (h:t.length≤1000000):Calls Tryz.prog 54 #[.string (strOf t)] w fun e w'=>e=.returned (.string (strOf (sealL t)))∧Below w.heap.size w w':=by
 have HC:=hid (crc_any (strOf t) w (by rw [strOf_size];unfold maxLen;omega))
 rw [strOf_data] at HC
 have HF:=hid (pfour_any (crcL t) w (crcL_lt t))
 have hsz:=strOf_size t
 have hsz4:=strOf_size (fourL (crcL t))
 have h4:(fourL (crcL t)).length=4:=rfl
 have HA:=hid (strOf_append (fourL (crcL t)) t)
 go_enter Tryz.func54,Tryz.ntmps54
 go_wp2_with (first | (go_at_call 87;refine HC.out.mono ?_;rintro e w1 ⟨rfl,rfl⟩) | (go_at_call 100;refine HF.out.mono ?_;rintro e w2 ⟨rfl,hb2⟩))
 go_ret
 exact ⟨by rw [HA.out];rfl,hb2⟩
theorem punseal_any (b:List UInt8) (w:World) (h:b.length≤100000000):Calls Tryz.prog 41 #[.string (strOf b)] w fun e w' =>
  e=.returned (if b.length<4 then .tuple #[.string ⟨#[]⟩,.int .i64 5] else if fourN b≠crcL (b.drop 4) then .tuple #[.string ⟨#[]⟩,.int .i64 6] else .tuple #[.string (strOf (b.drop 4)),.int .i64 0])∧w'=w:=by
 have hsz:=strOf_size b
 by_cases h4:b.length<4
 ·rw [if_pos h4]
  have h4':((strOf b).size:Int)<4:=by omega
  have h4'':(b.length:Int)<4:=by omega
  go_enter Tryz.func41,Tryz.ntmps41
  go_wp2
  go_ret2
  exact ⟨rfl,rfl⟩
 ·rw [if_neg h4]
  have h4':¬ ((strOf b).size:Int)<4:=by omega
  have h4'':¬ (b.length:Int)<4:=by omega
  have hx:=extract_drop b 4
  have HR:=hid (preadFour_any (strOf b) w (by omega) (by unfold maxLen;omega))
  rw [strOf_data] at HR
  have HC:=hid (crc_any (strOf (b.drop 4)) w (by rw [strOf_size];simp;unfold maxLen;omega))
  rw [strOf_data] at HC
  have h5:(4:Int)≤((strOf b).size:Int):=by omega
  have h5':(4:Int)≤(b.length:Int):=by omega
  generalize crcL (b.drop 4)=C at *
  generalize fourN b=F at *
  by_cases he:F=C
  ·subst he
   rw [if_neg (fun h=>h rfl)]
   go_enter Tryz.func41,Tryz.ntmps41
   go_wp2_with (first | (go_at_call 86;refine HR.out.mono ?_;rintro e w1 ⟨rfl,rfl⟩) | (go_at_call 87;refine HC.out.mono ?_;rintro e w1 ⟨rfl,rfl⟩))
   go_ret2
   exact ⟨rfl,rfl⟩
  ·rw [if_pos he]
   have hne:((F:Int) != (C:Int))=true:=by simp;omega
   go_enter Tryz.func41,Tryz.ntmps41
   go_wp2_with (first | (go_at_call 86;refine HR.out.mono ?_;rintro e w1 ⟨rfl,rfl⟩) | (go_at_call 87;refine HC.out.mono ?_;rintro e w1 ⟨rfl,rfl⟩))
   go_ret2
   exact ⟨rfl,rfl⟩
end Go.Proofs.YtcffomhcmilcpaaGreat.W
namespace Go.Proofs.YtcffomhcmilcpaaGreat
open Go.RowKit Go.Maps
def lstB (l:List Int):List UInt8:=W.intL (l.length:Int)++W.intsL l
def bitI (b:Bool):Int:=if b then 1 else 0
def brOne (p:Int × Br):List UInt8:=W.intsL [p.1,p.2.life,bitI p.2.up]
def tpOne (t:Tp):List UInt8:=W.textL t.name.data.toList++W.intsL [t.first,t.count]
def ptOne (p:Pt):List UInt8:=W.intsL [p.leader,p.epoch,p.ver,p.min]++lstB p.isr++lstB p.reps++lstB p.add++lstB p.rem
def brB (bs:BM):List UInt8:=(bs.map brOne).flatten
def tpB (ts:List Tp):List UInt8:=(ts.map tpOne).flatten
def ptB (ps:List Pt):List UInt8:=(ps.map ptOne).flatten
def bodyI (I:Im):List UInt8 :=
 W.intL I.applied++(W.intL (I.brs.length:Int)++brB I.brs)++(W.intL (I.tops.length:Int)++tpB I.tops)++(W.intL (I.parts.length:Int)++ptB I.parts)++lstB I.eps
def keepI (I:Im):List UInt8:=W.sealL (bodyI I)
theorem flat_take {α:Type} (f:α→List UInt8) (l:List α) (k:Nat) (h:k<l.length):((l.take (k+1)).map f).flatten=((l.take k).map f).flatten++f l[k]:=by
 rw [List.take_succ_eq_append_getElem h,List.map_append,List.flatten_append]
 simp only [List.map_cons,List.map_nil,List.flatten_cons,List.flatten_nil,List.append_nil]
theorem flat_len {α:Type} (f:α→List UInt8) (n:Nat):∀ (l:List α),(∀ x∈l,(f x).length≤n)→((l.map f).flatten).length≤l.length*n
 | [],_=>by simp
 | x :: r,h=>by
  have h1:=h x (by simp)
  have h2:=flat_len f n r (fun y hy=>h y (by simp [hy]))
  simp only [List.map_cons,List.flatten_cons,List.length_append,List.length_cons]
  rw [Nat.add_mul]
  omega
theorem lst_len (l:List Int):(lstB l).length≤10+l.length*10:=by
 unfold lstB
 have h1:=(W.intL_length (l.length:Int)).2
 have h2:=W.intsL_length l
 simp only [List.length_append]
 omega
theorem br_len (p:Int × Br):(brOne p).length≤30:=by
 have:=W.intsL_length [p.1,p.2.life,bitI p.2.up]
 unfold brOne
 simpa using this
theorem tp_len (t:Tp) (h:t.name.size≤32):(tpOne t).length≤62:=by
 unfold tpOne W.textL
 have h1:=(W.intL_length (t.name.data.toList.length:Int)).2
 have h2:=W.intsL_length [t.first,t.count]
 have h3:t.name.data.toList.length≤32:=by simpa using h
 simp only [List.length_append]
 simp only [List.length_cons,List.length_nil] at h2
 omega
theorem pt_len {p:Pt} (h:RightP p):(ptOne p).length≤400:=by
 unfold ptOne
 have h1:=W.intsL_length [p.leader,p.epoch,p.ver,p.min]
 have h2:=lst_len p.isr
 have h3:=lst_len p.reps
 have h4:=lst_len p.add
 have h5:=lst_len p.rem
 have k2:=ids_len h.isr
 have k3:=ids_len h.reps
 have k4:=ids_len h.add
 have k5:=ids_len h.rem
 simp only [List.length_append]
 simp only [List.length_cons,List.length_nil] at h1
 omega
theorem brs_len {I:Im} (h:ImOk I):(brB I.brs).length≤210:=by
 have h1:=flat_len brOne 30 I.brs (fun p _=>br_len p)
 have h2:=keys_few h.keys (fun p hp=>(h.brs p hp).1)
 unfold brB
 omega
theorem tps_len {I:Im} (h:ImOk I):(tpB I.tops).length≤1000:=by
 have h1:=flat_len tpOne 62 I.tops (fun t ht=>tp_len t (h.name t ht))
 have h2:=h.topsFew
 unfold tpB
 omega
theorem pts_len {I:Im} (h:ImOk I):(ptB I.parts).length≤6400:=by
 have h1:=flat_len ptOne 400 I.parts (fun p hp=>by
  obtain ⟨i,hi,e⟩:=List.getElem_of_mem hp
  exact pt_len (h.parts i p (by rw [← e];exact List.getElem?_eq_getElem hi)).1)
 have h2:=h.few
 unfold ptB
 omega
theorem body_len {I:Im} (h:ImOk I):(bodyI I).length≤100000:=by
 have h1:=brs_len h
 have h2:=tps_len h
 have h3:=pts_len h
 have h4:=lst_len I.eps
 have h5:=h.eps
 have a1:=(W.intL_length I.applied).2
 have a2:=(W.intL_length (I.brs.length:Int)).2
 have a3:=(W.intL_length (I.tops.length:Int)).2
 have a4:=(W.intL_length (I.parts.length:Int)).2
 unfold bodyI
 simp only [List.length_append]
 omega
def KB (w0 w:World) (v:Value) (l:List UInt8):Prop:=W.Row w w0.heap.size v l∧Below w0.heap.size w0 w
theorem KB.shape {w0 w:World} {v:Value} {l:List UInt8} (h:KB w0 w v l):∃ a c,v=.slice a l.length c:=by
 obtain ⟨oa,cap,e,_⟩:=row_shape (row_base h.1 (Nat.zero_le _))
 exact ⟨oa,cap,e⟩
theorem KB.under {w0 w w1:World} {v:Value} {l:List UInt8} (h:KB w0 w v l) (hb:Below w.heap.size w w1):KB w0 w1 v l:=⟨W.Row.under (B':=0) h.1 hb,h.2.trans (hb.mono h.2.size)⟩
theorem KB.alloc {w0 w:World} {v:Value} {l:List UInt8} (h:KB w0 w v l) (O:Obj):KB w0 (w.alloc O) v l:=h.under ((Below.refl _ _).alloc (Nat.le_refl _) _)
theorem box_kept {w w1:World} {O:Obj} {v v1:Value} {B:Nat} {l:List UInt8} (hr:W.Row w B v l) (h:W.Grow (w.alloc O) w1 v v1):w1.heap[w.heap.size]?=some O∧v1.ownBlock≠some w.heap.size:=by
 obtain ⟨a,b,c⟩:=h.block (q:=w.heap.size) (by simp) hr.fresh
 exact ⟨a.trans (heap_alloc_new _ _),b⟩
theorem app_new {w0 w:World} {v:Value} {l:List UInt8} (h:KB w0 w v l) (ns:List Int) (hi:∀ n∈ns,I64 n) (hl:l.length≤100000000) (hn:ns.length≤1000) (cs:Array Value) (hcs:cs=(ns.map fun n=>.int .i64 n).toArray) (m:Nat) (hm:m=ns.length) :
  Calls Tryz.prog 49 #[v,.slice (some ⟨w.heap.size,0,none⟩) m m] (w.alloc (.cells cs 3)) fun e w'=>∃ v',e=.returned v'∧KB w0 w' v' (l++W.intsL ns)∧W.Grow w w' v v':=by
 subst hm
 have hb0:Below w0.heap.size w0 (w.alloc (.cells cs 3)):=h.2.alloc h.2.size _
 refine (W.appInts_any (h.1.alloc (.cells cs 3)) hb0.size (some ⟨w.heap.size,0,none⟩) ns.length ns (.inr ⟨w.heap.size,0,rfl,by simp,h.1.fresh,fun i hi=>?_⟩) hi (by omega)).mono ?_
 ·rw [Nat.zero_add]
  exact cell_blk (heap_alloc_new _ _) i _ (by rw [hcs];simp [hi])
 ·rintro e w1 ⟨v',rfl,h1,h2,h3⟩
  exact ⟨v',rfl,⟨h1,hb0.trans h2⟩,((W.Grow.refl w v).alloc _).trans h3⟩
theorem intsL_one (n:Int):W.intsL [n]=W.intL n:=by simp [W.intsL]
theorem ints_in {w0 U:World} {v:Value} {l:List UInt8} (h:KB w0 U v l) {a:Option Addr} {c:Nat} {ns:List Int} (hi:IL w0 (.slice a ns.length c) ns):W.IntsIn U v a ns:=by
 obtain ⟨⟨a',cap,e,_,_,_,hat⟩,_,_⟩:=hi.under h.2
 obtain ⟨rfl,_,rfl⟩:=Value.slice.inj e
 by_cases hn:ns=[]
 ·exact .inl hn
 ·obtain ⟨b,off,rfl,hb,hc⟩:=hat hn
  have hlt:=IL.old hi hn b off _ _ rfl
  exact .inr ⟨b,off,rfl,hb,fun e=>by have:=h.1.own b e;omega,hc⟩
theorem appList_any {w0 w:World} {v:Value} {l:List UInt8} (h:KB w0 w v l) {a:Option Addr} {c:Nat} {ns:List Int} (hi:IL w0 (.slice a ns.length c) ns) (hl:l.length≤1000000) (hn:ns.length≤1000) :
  Calls Tryz.prog 53 #[v,.slice a ns.length c] w fun e w'=>∃ v',e=.returned v'∧KB w0 w' v' (l++lstB ns)∧W.Grow w w' v v':=by
 obtain ⟨av,cv,rfl⟩:=h.shape
 have H1:=hid (app_new h [(ns.length:Int)] (fun n hn=>by simp at hn;subst hn;unfold I64;omega) (by omega) (by simp) #[.int .i64 (ns.length:Int)] rfl 1 rfl)
 have HI:Hid (∀ U v',KB w0 U v' (l++W.intsL [(ns.length:Int)])→Calls Tryz.prog 49 #[v',.slice a ns.length c] U fun e w'=>∃ v2,e=.returned v2∧KB w0 w' v2 (l++lstB ns)∧W.Grow U w' v' v2):=fun U v' hW=>by
  have hlen:(l++W.intsL [(ns.length:Int)]).length≤1000010:=by
   have:=W.intsL_length [(ns.length:Int)]
   simp only [List.length_cons,List.length_nil] at this
   simp only [List.length_append]
   omega
  refine (W.appInts_any hW.1 hW.2.size a c ns (ints_in hW hi) (fun n hn=>hi.ok n hn) (by omega)).mono ?_
  rintro e w1 ⟨v2,rfl,k1,k2,k3⟩
  refine ⟨v2,rfl,⟨?_,hW.2.trans k2⟩,k3⟩
  rw [List.append_assoc,intsL_one] at k1
  exact k1
 clear h hi
 go_enter Tryz.func53,Tryz.ntmps53
 go_wp2_with fail
 refine H1.out.mono ?_
 rintro e w1 ⟨v1,rfl,hk1,hg1⟩
 have HC:=hid (HI.out _ _ hk1)
 have HG1:=hid hg1
 obtain ⟨a1,c1,rfl⟩:=hk1.shape
 clear hk1 H1 HI hg1
 generalize (l++W.intsL [(ns.length:Int)]).length=N1 at *
 go_wp2_with fail
 refine HC.out.mono ?_
 rintro e w2 ⟨v2,rfl,hk2,hg2⟩
 have HK:=hid hk2
 have HG:=hid (HG1.out.trans hg2)
 obtain ⟨a2,c2,e2⟩:=hk2.shape
 clear hk2 HC hg2 HG1
 generalize (l++lstB ns).length=N2 at *
 subst e2
 go_wp2_with fail
 go_ret
 exact ⟨_,rfl,HK.out,HG.out⟩
theorem appText_any {w0 w:World} {v:Value} {l:List UInt8} (h:KB w0 w v l) (s:ByteArray) (hl:l.length≤1000000) (hn:s.size≤1000) :
  Calls Tryz.prog 99 #[v,.string s] w fun e w'=>∃ v',e=.returned v'∧KB w0 w' v' (l++W.textL s.data.toList)∧W.Grow w w' v v':=by
 obtain ⟨av,cv,rfl⟩:=h.shape
 have H1:=hid (app_new h [(s.size:Int)] (fun n hn=>by simp at hn;subst hn;unfold I64;omega) (by omega) (by simp) #[.int .i64 (s.size:Int)] rfl 1 rfl)
 have hst:W.strOf s.data.toList=s:=by cases s;simp [W.strOf]
 have HST:=hid hst
 have HLN:Hid ((l++W.intsL [(s.size:Int)]).length≤1000010):=by
  have:=W.intsL_length [(s.size:Int)]
  simp only [List.length_cons,List.length_nil] at this
  show _≤_
  simp only [List.length_append]
  omega
 have HTX:Hid (l++W.intsL [(s.size:Int)]++s.data.toList=l++W.textL s.data.toList):=by
  show _=_
  rw [List.append_assoc,intsL_one]
  unfold W.textL
  simp
 have HSZ:Hid (s.data.toList.length≤1000):=by show _≤_;simpa using hn
 clear h hst
 go_enter Tryz.func99,Tryz.ntmps99
 go_wp2_with fail
 refine H1.out.mono ?_
 rintro e w1 ⟨v1,rfl,hk1,hg1⟩
 have HK1:=hid hk1
 have HG1:=hid hg1
 obtain ⟨a1,c1,rfl⟩:=hk1.shape
 clear hk1 H1 hg1
 have hsz:=HSZ.out
 have hln:=HLN.out
 generalize l++W.intsL [(s.size:Int)]=L at *
 go_wp2_with (at_builtin;refine W.wpList_append_str rfl _ _ rfl w0.heap.size _ L rfl HK1.out.1 s.data.toList (by rw [HST.out];rfl) (by omega) HK1.out.2.size ?_;intro v2 w2 hrow2 hb2 hg2)
 have HK:Hid (KB w0 w2 v2 (l++W.textL s.data.toList)):=by
  show KB _ _ _ _
  rw [← HTX.out]
  exact ⟨hrow2,HK1.out.2.trans hb2⟩
 have HG:=hid (HG1.out.trans hg2)
 obtain ⟨a2,c2,rfl⟩:=HK.out.shape
 clear hrow2 hb2 hg2 HG1
 go_wp2_with fail
 go_ret
 exact ⟨_,rfl,HK.out,HG.out⟩
theorem sfit (l m:List UInt8) (s:ByteArray) (hs:s=W.strOf l) (h:l.length+m.length≤1000000000000):∃ S:ByteArray,S=W.strOf (l++m)∧(¬ 9223372036854775807<s.size+(W.strOf m).size)∧s++W.strOf m=S:=by
 subst hs
 refine ⟨_,rfl,by rw [W.strOf_size,W.strOf_size];omega,?_⟩
 exact W.strOf_append l m
theorem rlist_any {w:World} {a:Option Addr} {c:Nat} {ns:List Int} (h:IL w (.slice a ns.length c) ns) (hn:ns.length≤1000):Calls Tryz.prog 59 #[.slice a ns.length c] w fun e w'=>e=.returned (.string (W.strOf (lstB ns)))∧Below w.heap.size w w':=by
 have HI:=hid h
 have H0:=hid (W.rint_any (ns.length:Int) w ⟨by omega,by omega⟩)
 clear h
 go_enter Tryz.func59,Tryz.ntmps59
 go_wp2_with fail
 refine H0.out.mono ?_
 rintro e w1 ⟨rfl,hb1⟩
 have HB1:Hid (Below w.heap.size w w1):=hb1
 clear hb1 H0
 go_wp2_with fail
 go_loopg [3,4] ns.length (fun kx s3 s4 wr=>∃ k:Nat,k≤ns.length∧ns.length - k≤kx∧s4=.int .i64 (k:Int)∧s3=.string (W.strOf (W.intL (ns.length:Int)++W.intsL (ns.take k)))∧Hid (Below w.heap.size w wr))
 case atStart=>exact ⟨0,Nat.zero_le _,by omega,rfl,by simp [W.intsL],HB1.out⟩
 case round =>
  obtain ⟨k,hk,hkx,rfl,rfl,HBW⟩:=hrel
  by_cases hlt:k<ns.length
  ·have hlt':(k:Int)<(ns.length:Int):=by omega
   obtain ⟨⟨a',c',e',_,_,_,hat⟩,hok,_⟩:=HI.out.under HBW.out
   obtain ⟨rfl,_,rfl⟩:=Value.slice.inj e'
   obtain ⟨b,off,rfl,hb,hc⟩:=hat (by intro e;rw [e] at hlt;simp at hlt)
   have hck:=hc k hlt
   have HC:=hid (W.rint_any ns[k] wr (hok _ (List.getElem_mem hlt)))
   have hlen:(W.intL (ns.length:Int)++W.intsL (ns.take k)).length≤100000:=by
    have h1:=(W.intL_length (ns.length:Int)).2
    have h2:=W.intsL_length (ns.take k)
    have h3:(ns.take k).length≤1000:=by simp;omega
    simp only [List.length_append]
    omega
   have hln:=(W.intL_length ns[k]).2
   obtain ⟨S1,hS,t1,t2⟩:=sfit (W.intL (ns.length:Int)++W.intsL (ns.take k)) (W.intL ns[k]) _ rfl (by omega)
   have HS:Hid (S1=W.strOf (W.intL (ns.length:Int)++W.intsL (ns.take (k+1)))):=by
    show _=_
    rw [hS,W.ints_take ns k hlt,List.append_assoc]
   clear hS hc hat hok e' hlen hln
   generalize ns[k]=y at *
   generalize W.strOf (W.intL (ns.length:Int)++W.intsL (ns.take k))=S0 at *
   generalize W.strOf (W.intL y)=Y at *
   go_wp2_with fail
   refine HC.out.mono ?_
   rintro e w2 ⟨rfl,hb2⟩
   have HB2:Hid (Below w.heap.size w w2):=HBW.out.trans (hb2.mono HBW.out.size)
   clear hb2 HC HBW
   go_wp2_with fail
   go_roundg (ns.length - (k+1))
   case measure=>omega
   case rel=>exact ⟨k+1,by omega,Nat.le_refl _,by go_num,by rw [HS.out],HB2.out⟩
  ·have hlt':¬ (k:Int)<(ns.length:Int):=by omega
   have HE:Hid (W.intL (ns.length:Int)++W.intsL (ns.take k)=lstB ns):=by show _=_;rw [List.take_of_length_le (by omega)];rfl
   rw [HE.out]
   go_wp2_with fail
   go_ret
   exact ⟨rfl,HBW.out⟩
theorem rsummed_any (l:List UInt8) (w:World) (hl:l.length≤1000000):Calls Tryz.prog 60 #[.string (W.strOf l)] w fun e w'=>e=.returned (.string (W.strOf (W.sealL l)))∧Below w.heap.size w w':=by
 have HC:=hid (W.rcrc_any (W.strOf l) w (by rw [W.strOf_size];unfold maxLen;omega))
 rw [W.strOf_data] at HC
 have HF:=hid (fun U=>W.rfour_any (W.crcL l) U (W.crcL_lt l))
 obtain ⟨S1,hS,t1,t2⟩:=sfit (W.fourL (W.crcL l)) l _ rfl (by simp [W.fourL];omega)
 have HS:Hid (S1=W.strOf (W.sealL l)):=hS
 clear hS
 generalize W.strOf (W.sealL l)=R at *
 generalize W.strOf l=SL at *
 generalize W.strOf (W.fourL (W.crcL l))=SF at *
 go_enter Tryz.func60,Tryz.ntmps60
 go_wp2_with fail
 refine HC.out.mono ?_
 rintro e w1 ⟨rfl,rfl⟩
 go_wp2_with fail
 refine (HF.out _).mono ?_
 rintro e w2 ⟨rfl,hb2⟩
 have HB:=hid hb2
 clear hb2
 go_wp2_with fail
 go_ret
 exact ⟨by rw [HS.out];rfl,HB.out⟩
end Go.Proofs.YtcffomhcmilcpaaGreat
