/- ReadInt of both. -/
import Derived.Test.YtcffomhcmilcpaaGreatC18
import Derived.Deep.QuietTactic
import Derived.BigQuiet
import Derived.Lib.AppendStr
import Derived.Lib.BufferWrite
import Derived.Deep.RegionHeld3
set_option maxRecDepth 100000
set_option maxHeartbeats 20000000
set_option linter.unusedVariables false
set_option linter.unusedSimpArgs false
namespace Go.Proofs.YtcffomhcmilcpaaGreat.W
open Go.RowKit Go.Maps
theorem drop_at (s:ByteArray) (k:Nat) (h:k<s.size):s.data.toList.drop k=s[k] :: s.data.toList.drop (k+1):=by
 rw [List.drop_eq_getElem_cons (by simpa using h)];rfl
theorem pow_two (k:Nat):(2:Int) ^ (7*k)=((128 ^ k:Nat):Int):=by
 rw [Int.pow_mul];norm_cast
theorem shl_lt (z d k:Nat) (hk:k≤9) (hz:z<128 ^ k) (h9:k=9→d≤1):z+d % 128*128 ^ k<18446744073709551616:=by
 have h9':(128:Nat) ^ 9=9223372036854775808:=by decide
 by_cases h:k=9
 ·subst h
  have:d % 128*128 ^ 9≤1*128 ^ 9:=Nat.mul_le_mul_right _ (by have:=h9 rfl;omega)
  omega
 ·have hp8:128 ^ k≤128 ^ 8:=Nat.pow_le_pow_right (by omega) (by omega)
  have h8:(128:Nat) ^ 8=72057594037927936:=by decide
  have:d % 128*128 ^ k≤127*128 ^ k:=Nat.mul_le_mul_right _ (by omega)
  omega
theorem shl_pow (z d k:Nat) (hz:z<128 ^ k):z+d % 128*128 ^ k<128 ^ (k+1):=by
 have:d % 128*128 ^ k≤127*128 ^ k:=Nat.mul_le_mul_right _ (by omega)
 rw [Nat.pow_succ]
 omega
theorem shl_or (z d k:Nat) (hk:k≤9) (hz:z<128 ^ k) (hd:d<256) (h9:k=9→d≤1) :
  bits .or .u64 (z:Int) (IntKind.u64.wrap (IntKind.u64.wrap (bits .and .u8 (d:Int) 127)*2 ^ (7*k)))=((z+d % 128*128 ^ k:Nat):Int):=by
 have hlt:=shl_lt z d k hk hz h9
 have e1:bits .and .u8 (d:Int) 127=((d % 128:Nat):Int):=by
  have:=u8_and_nat d 127 hd (by omega)
  rw [nat_mask7] at this
  exact this
 have e2:IntKind.u64.wrap ((d % 128:Nat):Int)=((d % 128:Nat):Int):=by rw [IntKind.wrap_u64];omega
 have e3:IntKind.u64.wrap (((d % 128*128 ^ k:Nat):Int))=((d % 128*128 ^ k:Nat):Int):=by rw [IntKind.wrap_u64];omega
 rw [e1,e2,pow_two,← Int.natCast_mul,e3,u64_or_nat _ _ (by omega) (by omega)]
 have hj:=nat_join (7*k) (d % 128*128 ^ k) z (by rw [Nat.pow_mul];exact Nat.mul_mod_left _ _) (by rw [Nat.pow_mul];exact hz)
 rw [Nat.or_comm,hj,Nat.add_comm]
theorem rdZ_step (f k z:Nat) (d:UInt8) (r:List UInt8) (h:¬ ((k=9∧1<d.toNat)∨(0<k∧d.toNat=0))) :
  rdZ (f+1) k z (d :: r)=if d.toNat<128 then (z+d.toNat % 128*128 ^ k,k+1,0) else rdZ f (k+1) (z+d.toNat % 128*128 ^ k) r:=by
 rw [rdZ,if_neg h]
 by_cases hd:d.toNat<128
 ·rw [if_pos hd,if_pos hd,Nat.mod_eq_of_lt hd]
 ·rw [if_neg hd,if_neg hd]
theorem readInt_any (s:ByteArray) (w:World) (hs:s.size≤maxLen) :
  Calls Tryz.prog 88 #[.string s] w fun e w'=>e=.returned (.tuple #[.int .i64 (readL s.data.toList).1,.int .i64 ((readL s.data.toList).2.1:Nat),.int .i64 (readL s.data.toList).2.2])∧w=w':=by
 unfold maxLen at hs
 obtain ⟨R,hR⟩:∃ R,R=rdZ 10 0 0 s.data.toList:=⟨_,rfl⟩
 have HR:Hid (readL s.data.toList=okI R):=by show _=_;rw [hR];rfl
 have H0:Hid (rdZ (10 - 0) 0 0 (s.data.toList.drop 0)=R):=hR.symm
 clear hR
 go_enter Tryz.func88,Tryz.ntmps88
 go_wp2
 go_loop [5,8] (fun c i=>∃ k z:Nat,k≤10∧k≤s.size∧i=.int .i64 k∧c=.int .u64 z∧z<128 ^ k∧Hid (rdZ (10 - k) k z (s.data.toList.drop k)=R)) (fun _ i=>10 - (intOf i).toNat)
 case atStart=>exact ⟨0,0,Nat.zero_le _,Nat.zero_le _,rfl,rfl,by simp,H0⟩
 case round =>
  obtain ⟨k,z,hk,hks,rfl,rfl,hz,HD⟩:=hrel
  clear H0
  by_cases hlt:k<10
  ·have hlt':(k:Int)<10:=by omega
   by_cases hsz:k<s.size
   ·have hsz':((k:Int) == (s.size:Int))=false:=by simp;omega
    by_cases h9:k=9
    ·have h9':((k:Int) == 9)=true:=by simp;omega
     by_cases hd1:1<s[k].toNat
     ·have hd1':1<(s[k].toNat:Int):=by omega
      have HF:Hid (readL s.data.toList=(0,0,4)):=by
       show _=_
       rw [HR.out,← HD.out,drop_at s k hsz,show 10 - k=10 - (k+1)+1 by omega,rdZ,if_pos (by omega)]
       rfl
      try clear h9
      try clear h0
      try clear hd0
      go_wp2
      go_ret3
      exact ⟨by rw [HF.out];rfl,rfl⟩
     ·have hd1':¬ 1<(s[k].toNat:Int):=by omega
      have h0':0<(k:Int):=by omega
      by_cases hd0:s[k].toNat=0
      ·have hd0':((s[k].toNat:Int) == 0)=true:=by simp;omega
       have HF:Hid (readL s.data.toList=(0,0,4)):=by
        show _=_
        rw [HR.out,← HD.out,drop_at s k hsz,show 10 - k=10 - (k+1)+1 by omega,rdZ,if_pos (by omega)]
        rfl
       try clear h9
       try clear h0
       try clear hd0
       go_wp2
       go_ret3
       exact ⟨by rw [HF.out];rfl,rfl⟩
      ·have hd0':((s[k].toNat:Int) == 0)=false:=by simp;omega
       have hb:=s[k].toNat_lt
       have hcond:¬ ((k=9∧1<s[k].toNat)∨(0<k∧s[k].toNat=0)):=by omega
       obtain ⟨Z,hZ⟩:∃ Z,Z=z+s[k].toNat % 128*128 ^ k:=⟨_,rfl⟩
       have hbig:=shl_or z s[k].toNat k (by omega) hz (by omega) (by omega)
       have hZlt:=shl_lt z s[k].toNat k (by omega) hz (by omega)
       have hZp:=shl_pow z s[k].toNat k hz
       have HN:=hid (rdZ_step (10 - (k+1)) k z s[k] (s.data.toList.drop (k+1)) hcond)
       rw [← hZ] at hbig hZlt hZp HN
       rw [show 10 - (k+1)+1=10 - k by omega,← drop_at s k hsz] at HN
       have HN2:=HN.out.symm.trans HD.out
       have HN3:=hid HN2
       clear HN HN2 hZ hcond hz
       try clear h9
       try clear h0
       try clear hd0
       by_cases hd:s[k].toNat<128
       ·have hd':(s[k].toNat:Int)<128:=by omega
        have HF:Hid (readL s.data.toList=(unzz Z,k+1,0)):=by
         show _=_
         rw [HR.out,← HN3.out,if_pos hd]
         rfl
        go_wp2_with (go_at_call 134;refine (unfolded_any Z _ hZlt).mono ?_;rintro e w' ⟨rfl,rfl⟩)
        go_ret3
        exact ⟨by rw [HF.out];go_num,rfl⟩
       ·omega
    ·have h9':((k:Int) == 9)=false:=by simp;omega
     by_cases h0:k=0
     ·have h0':¬ 0<(k:Int):=by omega
      have hb:=s[k].toNat_lt
      have hcond:¬ ((k=9∧1<s[k].toNat)∨(0<k∧s[k].toNat=0)):=by omega
      obtain ⟨Z,hZ⟩:∃ Z,Z=z+s[k].toNat % 128*128 ^ k:=⟨_,rfl⟩
      have hbig:=shl_or z s[k].toNat k (by omega) hz (by omega) (by omega)
      have hZlt:=shl_lt z s[k].toNat k (by omega) hz (by omega)
      have hZp:=shl_pow z s[k].toNat k hz
      have HN:=hid (rdZ_step (10 - (k+1)) k z s[k] (s.data.toList.drop (k+1)) hcond)
      rw [← hZ] at hbig hZlt hZp HN
      rw [show 10 - (k+1)+1=10 - k by omega,← drop_at s k hsz] at HN
      have HN2:=HN.out.symm.trans HD.out
      have HN3:=hid HN2
      clear HN HN2 hZ hcond hz
      try clear h9
      try clear h0
      try clear hd0
      by_cases hd:s[k].toNat<128
      ·have hd':(s[k].toNat:Int)<128:=by omega
       have HF:Hid (readL s.data.toList=(unzz Z,k+1,0)):=by
        show _=_
        rw [HR.out,← HN3.out,if_pos hd]
        rfl
       go_wp2_with (go_at_call 134;refine (unfolded_any Z _ hZlt).mono ?_;rintro e w' ⟨rfl,rfl⟩)
       go_ret3
       exact ⟨by rw [HF.out];go_num,rfl⟩
      ·have hd':¬ (s[k].toNat:Int)<128:=by omega
       have HF:Hid (rdZ (10 - (k+1)) (k+1) Z (s.data.toList.drop (k+1))=R):=by
        show _=_
        rw [← HN3.out,if_neg hd]
       go_wp2
       go_round
       case rel=>exact ⟨k+1,Z,by omega,by omega,by go_num,rfl,hZp,HF⟩
       case measure=>simp [intOf];omega
     ·have h0':0<(k:Int):=by omega
      by_cases hd0:s[k].toNat=0
      ·have hd0':((s[k].toNat:Int) == 0)=true:=by simp;omega
       have HF:Hid (readL s.data.toList=(0,0,4)):=by
        show _=_
        rw [HR.out,← HD.out,drop_at s k hsz,show 10 - k=10 - (k+1)+1 by omega,rdZ,if_pos (by omega)]
        rfl
       try clear h9
       try clear h0
       try clear hd0
       go_wp2
       go_ret3
       exact ⟨by rw [HF.out];rfl,rfl⟩
      ·have hd0':((s[k].toNat:Int) == 0)=false:=by simp;omega
       have hb:=s[k].toNat_lt
       have hcond:¬ ((k=9∧1<s[k].toNat)∨(0<k∧s[k].toNat=0)):=by omega
       obtain ⟨Z,hZ⟩:∃ Z,Z=z+s[k].toNat % 128*128 ^ k:=⟨_,rfl⟩
       have hbig:=shl_or z s[k].toNat k (by omega) hz (by omega) (by omega)
       have hZlt:=shl_lt z s[k].toNat k (by omega) hz (by omega)
       have hZp:=shl_pow z s[k].toNat k hz
       have HN:=hid (rdZ_step (10 - (k+1)) k z s[k] (s.data.toList.drop (k+1)) hcond)
       rw [← hZ] at hbig hZlt hZp HN
       rw [show 10 - (k+1)+1=10 - k by omega,← drop_at s k hsz] at HN
       have HN2:=HN.out.symm.trans HD.out
       have HN3:=hid HN2
       clear HN HN2 hZ hcond hz
       try clear h9
       try clear h0
       try clear hd0
       by_cases hd:s[k].toNat<128
       ·have hd':(s[k].toNat:Int)<128:=by omega
        have HF:Hid (readL s.data.toList=(unzz Z,k+1,0)):=by
         show _=_
         rw [HR.out,← HN3.out,if_pos hd]
         rfl
        go_wp2_with (go_at_call 134;refine (unfolded_any Z _ hZlt).mono ?_;rintro e w' ⟨rfl,rfl⟩)
        go_ret3
        exact ⟨by rw [HF.out];go_num,rfl⟩
       ·have hd':¬ (s[k].toNat:Int)<128:=by omega
        have HF:Hid (rdZ (10 - (k+1)) (k+1) Z (s.data.toList.drop (k+1))=R):=by
         show _=_
         rw [← HN3.out,if_neg hd]
        go_wp2
        go_round
        case rel=>exact ⟨k+1,Z,by omega,by omega,by go_num,rfl,hZp,HF⟩
        case measure=>simp [intOf];omega
   ·have hsz':((k:Int) == (s.size:Int))=true:=by simp;omega
    have HF:Hid (readL s.data.toList=(0,0,5)):=by
     show _=_
     rw [HR.out,← HD.out,show 10 - k=10 - (k+1)+1 by omega,List.drop_of_length_le (by simp;omega)]
     rfl
    go_wp2
    go_ret3
    exact ⟨by rw [HF.out];rfl,rfl⟩
  ·have hlt':¬ (k:Int)<10:=by omega
   have HF:Hid (readL s.data.toList=(0,0,4)):=by
    show _=_
    rw [HR.out,← HD.out,show 10 - k=0 by omega]
    rfl
   go_wp2
   go_ret3
   exact ⟨by rw [HF.out];rfl,rfl⟩
theorem row_made (w:World) (cs:List Value) (l:List UInt8) (n:Nat) (h:cs=u8c l) (hn:n=l.length) (hm:n≤maxLen):Row (w.alloc (.cells cs.toArray 5)) w.heap.size (.slice (some ⟨w.heap.size,0,none⟩) n n) l:=by
 subst h hn
 refine ⟨by simp [u8c],.inr ⟨w.heap.size,l.length,(u8c l).toArray,rfl,Nat.le_refl _,heap_alloc_new w _,Nat.le_refl _,hm,by simp [u8c],?_⟩⟩
 show ((u8c l).toArray.toList).take (l.length*1)=u8c l
 rw [List.take_of_length_le (by simp [u8c])]
theorem fourL_cells (n:Nat) (h:n<4294967296):[.int .u8 ((n:Int) / 16777216),.int .u8 ((n:Int) / 65536 % 256),.int .u8 ((n:Int) / 256 % 256),.int .u8 ((n:Int) % 256)]=u8c (fourL n):=by
 simp [u8c,fourL]
 omega
theorem four_conv (w:World) (n:Nat) (h:n<4294967296) :
  (convert 46 9 (.slice (some ⟨w.heap.size,0,none⟩) 4 4)).run Tryz.prog (w.alloc (.cells #[.int .u8 ((n:Int) / 16777216),.int .u8 ((n:Int) / 65536 % 256),.int .u8 ((n:Int) / 256 % 256),.int .u8 ((n:Int) % 256)] 5)) =
   .ok (.string (strOf (fourL n))) (w.alloc (.cells #[.int .u8 ((n:Int) / 16777216),.int .u8 ((n:Int) / 65536 % 256),.int .u8 ((n:Int) / 256 % 256),.int .u8 ((n:Int) % 256)] 5)) :=
 (row_made w _ (fourL n) 4 (fourL_cells n h) rfl (by unfold maxLen;omega)).conv
theorem i64_or_nat (a b:Nat) (ha:a<9223372036854775808) (hb:b<9223372036854775808):bits .or .i64 (a:Int) (b:Int)=((a ||| b:Nat):Int):=by
 have hx:a ||| b<2 ^ 63:=Nat.or_lt_two_pow (by omega) (by omega)
 show IntKind.i64.wrap ((BitVec.ofInt 64 (a:Int) ||| BitVec.ofInt 64 (b:Int)).toNat:Int)=_
 rw [BitVec.toNat_or,ofInt_u64 a (by omega),ofInt_u64 b (by omega),IntKind.wrap_i64]
 omega
theorem or_byte (a d:Nat) (ha:a<16777216) (hd:d<256):bits .or .i64 ((a:Int)*256) (d:Int)=((a*256+d:Nat):Int):=by
 have h:=i64_or_nat (a*256) d (by omega) (by omega)
 rw [nat_join 8 (a*256) d (by omega) (by omega)] at h
 rw [show ((a:Int)*256)=((a*256:Nat):Int) by omega,h]
def accN (l:List UInt8):Nat:=l.foldl (fun a b=>a*256+b.toNat) 0
theorem accN_snoc (l:List UInt8) (b:UInt8):accN (l++[b])=accN l*256+b.toNat:=by simp [accN]
theorem accN_lt (s:ByteArray):∀ k,k≤4→k≤s.size→accN (s.data.toList.take k)<256 ^ k
 | 0,_,_=>by simp [accN]
 | k+1,h,hs=>by
  have ih:=accN_lt s k (by omega) (by omega)
  have:=s[k].toNat_lt
  rw [take_snoc s k (by omega),accN_snoc,Nat.pow_succ]
  omega
theorem accN_four (l:List UInt8) (h:4≤l.length):accN (l.take 4)=fourN l:=by
 match l,h with
 | a :: b :: c :: d :: r,_=>simp [accN,fourN];omega
def Rec.ok (r:Rec):Prop:=I64 r.time∧r.key.length≤maxLen∧r.val.length≤maxLen
def RecCells (w:World) (b o:Nat) (r:Rec):Prop:=w.cell? ⟨b,o,none⟩=some (.string (strOf r.key))∧w.cell? ⟨b,o+1,none⟩=some (.string (strOf r.val))∧w.cell? ⟨b,o+2,none⟩=some (.int .i64 r.time)
def RecsAt (w:World) (a:Option Addr) (rs:List Rec):Prop:=rs=[]∨∃ b off,a=some ⟨b,off,none⟩∧b<w.heap.size∧∀ i (h:i<rs.length),RecCells w b (off+i*3) rs[i]
structure Recs (w:World) (v:Value) (rs:List Rec):Prop where
 shape:∃ a cap,v=.slice a rs.length cap∧RecsAt w a rs
 ok:∀ r∈rs,r.ok
 len:rs.length≤maxLen
theorem RecCells.under {w w':World} {b o:Nat} {r:Rec} (h:RecCells w b o r) (e:w'.heap[b]?=w.heap[b]?):RecCells w' b o r:=by
 obtain ⟨h0,h1,h2⟩:=h
 exact ⟨(World.cell?_of_block (a:=⟨b,o,none⟩) e).trans h0,(World.cell?_of_block (a:=⟨b,o+1,none⟩) e).trans h1,(World.cell?_of_block (a:=⟨b,o+2,none⟩) e).trans h2⟩
theorem RecsAt.under {w w':World} {a:Option Addr} {rs:List Rec} (h:RecsAt w a rs) (hb:Below w.heap.size w w'):RecsAt w' a rs:=by
 rcases h with h | ⟨b,off,e,hl,hc⟩
 ·exact .inl h
 ·exact .inr ⟨b,off,e,Nat.lt_of_lt_of_le hl hb.size,fun i hi=>(hc i hi).under (hb.block b hl)⟩
theorem Recs.under {w w':World} {v:Value} {rs:List Rec} (h:Recs w v rs) (hb:Below w.heap.size w w'):Recs w' v rs:=by
 obtain ⟨a,cap,e,ha⟩:=h.shape
 exact ⟨⟨a,cap,e,ha.under hb⟩,h.ok,h.len⟩
theorem Recs.at {w:World} {a:Option Addr} {cap:Nat} {rs:List Rec} (h:RecsAt w a rs) (k:Nat) (hk:k<rs.length):∃ b off,a=some ⟨b,off,none⟩∧b<w.heap.size∧RecCells w b (off+k*3) rs[k]:=by
 rcases h with h | ⟨b,off,e,hl,hc⟩
 ·subst h;simp at hk
 ·exact ⟨b,off,e,hl,hc k hk⟩
structure Bat.ints (b:Bat):Prop where
 h0:I64 b.base
 h1:I64 b.epoch
 h2:I64 b.pid
 h3:I64 b.pidEpoch
 h4:I64 b.seq
def IntsAt (w:World) (a:Option Addr) (B:Nat) (ns:List Int):Prop:=ns=[]∨∃ b off,a=some ⟨b,off,none⟩∧b<B∧∀ i (h:i<ns.length),w.cell? ⟨b,off+i,none⟩=some (.int .i64 ns[i])
theorem IntsAt.under {w w':World} {a:Option Addr} {B:Nat} {ns:List Int} (h:IntsAt w a B ns) (hb:Below B w w'):IntsAt w' a B ns:=by
 rcases h with h | ⟨b,off,e,hl,hc⟩
 ·exact .inl h
 ·exact .inr ⟨b,off,e,hl,fun i hi=>(World.cell?_of_block (a:=⟨b,off+i,none⟩) (hb.block b hl)).trans (hc i hi)⟩
theorem IntsAt.at {w:World} {a:Option Addr} {B:Nat} {ns:List Int} (h:IntsAt w a B ns) (k:Nat) (hk:k<ns.length):∃ b off,a=some ⟨b,off,none⟩∧w.cell? ⟨b,off+k,none⟩=some (.int .i64 ns[k]):=by
 rcases h with h | ⟨b,off,e,hl,hc⟩
 ·subst h;simp at hk
 ·exact ⟨b,off,e,hc k hk⟩
theorem ints_take (ns:List Int) (k:Nat) (h:k<ns.length):intsL (ns.take (k+1))=intsL (ns.take k)++intL ns[k]:=by
 rw [List.take_succ_eq_append_getElem h,intsL_snoc]
theorem strCells_eq (l:List UInt8):Lib.strCells (strOf l)=u8c l:=by
 unfold Lib.strCells u8c
 rw [strOf_data]
theorem cell_blk {w:World} {q:Nat} {cs:Array Value} {T:TypeId} {mk:Nat × Nat} (h:w.heap[q]?=some (.cells cs T mk)) (j:Nat) (u:Value) (hu:cs[j]?=some u):w.cell? ⟨q,j,none⟩=some u:=by
 show (match w.heap[q]? with | some (.cells c _ _)=>c[j]? | _=>none)=_
 rw [h]
 exact hu
theorem Row.lt {w:World} {B:Nat} {v:Value} {l:List UInt8} (h:Row w B v l):∀ k,v.ownBlock=some k→k<w.heap.size:=fun k hk=>(World.ownsRow.lt h k hk).2
structure BodyAt (w:World) (B:Nat) (b:Bat) (k:Nat) (v:Value) (wr:World):Prop where
 row:Row wr B v (intsL (numsOf b)++intL b.recs.length++recsL (b.recs.take k))
 below:Below w.heap.size w wr
 base:w.heap.size≤B
 size:B≤wr.heap.size
theorem recs_take (rs:List Rec) (k:Nat) (h:k<rs.length):recsL (rs.take (k+1))=recsL (rs.take k)++recL rs[k]:=by
 rw [List.take_succ_eq_append_getElem h,recsL_snoc]
theorem BodyAt.next {w:World} {B:Nat} {b:Bat} {k:Nat} {v:Value} {wr:World} (h:BodyAt w B b k v wr) (hk:k<b.recs.length) {O:Obj} {w1 w2 w3:World} {v3:Value} {M:List UInt8}
  (hM:M=intsL (numsOf b)++intL b.recs.length++recsL (b.recs.take k)) (r3:Row w3 B v3 (M++intL b.recs[k].time++textL b.recs[k].key++textL b.recs[k].val)) (b1:Below B (wr.alloc O) w1) (b2:Below B w1 w2) (b3:Below B w2 w3):BodyAt w B b (k+1) v3 w3:=by
 have hb:=h.base
 have hs:=h.size
 refine ⟨?_,?_,hb,?_⟩
 ·rw [recs_take _ k hk]
  have e:intsL (numsOf b)++intL b.recs.length++(recsL (b.recs.take k)++recL b.recs[k])=M++intL b.recs[k].time++textL b.recs[k].key++textL b.recs[k].val:=by
   rw [hM];simp [recL]
  rw [e];exact r3
 ·exact (((h.below.alloc (Nat.le_trans hb hs) O).trans (b1.mono hb)).trans (b2.mono hb)).trans (b3.mono hb)
 ·have h1:=b1.size;have h2:=b2.size;have h3:=b3.size
  simp at h1;omega
structure Boxed (w W:World) (O:Obj):Prop where
 below:Below w.heap.size w W
 box:W.heap[w.heap.size]?=some O
theorem Boxed.lt {w W:World} {O:Obj} (h:Boxed w W O):w.heap.size<W.heap.size:=by
 rcases Nat.lt_or_ge w.heap.size W.heap.size with h1 | h1
 ·exact h1
 ·have:=h.box;rw [Array.getElem?_eq_none h1] at this;cases this
theorem Boxed.laid (w:World) (O:Obj):Boxed w (w.alloc O) O:=⟨(Below.refl _ _).alloc (Nat.le_refl _) _,heap_alloc_new w O⟩
theorem Boxed.next {w W W':World} {O:Obj} (h:Boxed w W O) (hb:Below W.heap.size W W'):Boxed w W' O:=⟨h.below.trans (hb.mono (Nat.le_of_lt h.lt)),(hb.block _ h.lt).trans h.box⟩
theorem strOf_append (l m:List UInt8):strOf l++strOf m=strOf (l++m):=by
 apply ByteArray.ext
 simp [strOf]
theorem frozen_blk {w:World} {q:Nat} {cs:Array Value} {T:TypeId} (h:w.heap[q]?=some (.cells cs T)) (j:Nat):w.frozen? ⟨q,j,none⟩=false:=by
 simp [World.frozen?,h]
theorem extract_drop (l:List UInt8) (k:Nat):(strOf l).extract k l.length=strOf (l.drop k):=by
 rw [Lib.extract_eq,strOf_data,List.take_of_length_le (by simp)]
 rfl
theorem extract_take (l:List UInt8) (k:Nat):(strOf l).extract 0 k=strOf (l.take k):=by
 rw [Lib.extract_eq,strOf_data]
 simp [strOf]
theorem grown_below {w w':World} {q:Nat} (hb:Below w.heap.size w w'):w.grownBy w' (some q):=⟨hb.os,hb.tape,hb.output,hb.size,fun k hk _=>hb.block k hk⟩

end Go.Proofs.YtcffomhcmilcpaaGreat.W
