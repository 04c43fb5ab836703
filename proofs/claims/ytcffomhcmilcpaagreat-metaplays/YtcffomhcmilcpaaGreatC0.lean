/- A partition's state without memory: lists of brokers,what decisions make of a state. -/
import Derived.WalkKit
import Derived.Test.YtcffomhcmilcpaaGreatRows
import Derived.WalkSpells
import Derived.WalkLawsBesides
import Derived.Deep.LoopGhost
import Derived.Maps.AppendAt
import Derived.Maps.Range
import Derived.Deep.QuietTactic
import Derived.BigQuiet
import Derived.Lib.SliceRun
import Derived.Laws.AppendOwnNone
set_option maxRecDepth 100000
set_option maxHeartbeats 20000000
set_option linter.unusedVariables false
set_option linter.unusedSimpArgs false
namespace Go.Proofs.YtcffomhcmilcpaaGreat
def I64 (n:Int):Prop:=-9223372036854775808≤n∧n≤9223372036854775807
structure Pt where
 id:Int
 leader:Int
 epoch:Int
 ver:Int
 isr:List Int
 reps:List Int
 add:List Int
 rem:List Int
 min:Int
def Pt.zero:Pt:=⟨0,0,0,0,[],[],[],[],0⟩
def hasB (l:List Int) (x:Int):Bool:=decide (x∈l)
def lackB (l:List Int) (x:Int):Bool:=!hasB l x
def upB (n m:Int):Bool:=decide (1≤n∧n≤m)
def idsB (l:List Int):Bool:=decide (l.Nodup∧∀ x∈l,1≤x∧x≤7)
def inL (l m:List Int):List Int:=l.filter (hasB m)
def outL (l m:List Int):List Int:=l.filter (lackB m)
def numB (p:Pt):Bool:=upB p.id 16 && upB p.min 5 && upB p.epoch 1000000000 && upB p.ver 1000000000
def eachB (p:Pt):Bool:=idsB p.isr && idsB p.reps && idsB p.add && idsB p.rem
def listB (p:Pt):Bool :=
 eachB p && decide (0<p.isr.length) && p.isr.all (hasB p.reps) && p.add.all (hasB p.reps) && p.rem.all (hasB p.reps) && p.rem.all (lackB p.add) && decide (0<(outL p.reps p.rem).length)
def rightB (p:Pt):Bool:=numB p && listB p && (decide (p.leader=0) || hasB p.isr p.leader)
def headL (l:List Int):Int:=l.headD 0
def heirP (p:Pt) (up:List Int):Int:=headL (outL (inL (inL p.reps p.isr) up) [p.leader])
def nextP (p:Pt) (l:Int):Pt:=if l=p.leader then { p with ver:=p.ver+1 } else { p with leader:=l,epoch:=p.epoch+1,ver:=p.ver+1 }
def overB (p:Pt):Bool:=decide (1000000000<p.epoch∨1000000000<p.ver)
def changedP (p:Pt) (l:Int):Pt × Int:=if overB (nextP p l) then (Pt.zero,20) else (nextP p l,0)
def movingB (p:Pt):Bool:=decide (0<p.add.length) || decide (0<p.rem.length)
def targetsP (p:Pt):List Int:=outL p.reps p.rem
def electP (p:Pt) (l:Int):Pt × Int :=
 if !rightB p || (!decide (l=0) && !upB l 7) then (Pt.zero,1)
 else if !decide (l=0) && lackB p.isr l then (Pt.zero,19)
 else if l=p.leader then (p,0) else changedP p l
def fenIsr (p:Pt) (b:Int):List Int:=if 1<p.isr.length then outL p.isr [b] else p.isr
def fenP (p:Pt) (b:Int):Pt:={ p with isr:=fenIsr p b }
def fenL (p:Pt) (b:Int) (up:List Int):Int:=if p.leader=b then heirP (fenP p b) up else p.leader
def fenceP (p:Pt) (b:Int) (up:List Int):Pt × Int :=
 if !rightB p || !upB b 7 then (Pt.zero,1)
 else if fenL p b up=p.leader∧(fenIsr p b).length=p.isr.length then (fenP p b,0) else changedP (fenP p b) (fenL p b up)
def backP (p:Pt) (b:Int):Pt × Int :=
 if !rightB p || !upB b 7 then (Pt.zero,1)
 else if p.leader≠0∨lackB p.isr b=true then (p,0) else changedP p b
def heldP (p:Pt) (e v:Int):Int :=
 if e<p.epoch∨(e=p.epoch∧v<p.ver) then 13 else if p.epoch<e∨p.ver<v then 14 else 0
def syncB (p:Pt) (l up:List Int):Bool:=idsB l && hasB l p.leader && l.all (hasB p.reps) && (outL l p.isr).all (hasB up)
def alterP (p:Pt) (l e v:Int) (isr up:List Int):Pt × Int :=
 if !rightB p then (Pt.zero,1)
 else if heldP p e v≠0 then (Pt.zero,heldP p e v)
 else if l=0∨l≠p.leader then (Pt.zero,19)
 else if !syncB p isr up then (Pt.zero,1)
 else changedP { p with isr:=inL p.reps isr } l
def mayB (t:List Int):Bool:=upB t.length 5 && idsB t
def begP (p:Pt) (t:List Int):Pt:={ p with add:=outL t p.reps,rem:=outL p.reps t,reps:=t++outL p.reps t }
def beginP (p:Pt) (t up:List Int):Pt × Int :=
 if !rightB p || !mayB t then (Pt.zero,1)
 else if movingB p then (Pt.zero,19)
 else if !(outL t p.reps).all (hasB up) then (Pt.zero,8)
 else if p.reps=t then (p,0) else changedP (begP p t) p.leader
def setP (p:Pt) (g:List Int):Pt:={ p with reps:=outL p.reps g,isr:=outL p.isr g,add:=[],rem:=[] }
def setL (p:Pt) (g up:List Int):Int:=if hasB g p.leader then heirP (setP p g) up else p.leader
def settledP (p:Pt) (g up:List Int):Pt × Int:=changedP (setP p g) (setL p g up)
def finishP (p:Pt) (up:List Int):Pt × Int :=
 if !rightB p then (Pt.zero,1)
 else if !movingB p || !(targetsP p).all (hasB p.isr) then (Pt.zero,19) else settledP p p.rem up
def cancelP (p:Pt) (up:List Int):Pt × Int :=
 if !rightB p then (Pt.zero,1)
 else if !movingB p || p.isr.all (hasB p.add) then (Pt.zero,19) else settledP p p.add up
def sameP (p q:Pt):Bool :=
 decide (p.id=q.id) && decide (p.leader=q.leader) && decide (p.epoch=q.epoch) && decide (p.ver=q.ver) && decide (p.min=q.min) && decide (p.isr=q.isr) && decide (p.reps=q.reps) && decide (p.add=q.add) && decide (p.rem=q.rem)
theorem hasB_iff {l:List Int} {x:Int}:hasB l x=true ↔ x∈l:=by simp [hasB]
theorem lackB_iff {l:List Int} {x:Int}:lackB l x=true ↔ x ∉ l:=by simp [lackB,hasB]
theorem upB_iff {n m:Int}:upB n m=true ↔ 1≤n∧n≤m:=by simp [upB]
theorem idsB_iff {l:List Int}:idsB l=true ↔ l.Nodup∧∀ x∈l,1≤x∧x≤7:=by simp [idsB]
theorem mem_inL {l m:List Int} {x:Int}:x∈inL l m ↔ x∈l∧x∈m:=by simp [inL,hasB_iff]
theorem mem_outL {l m:List Int} {x:Int}:x∈outL l m ↔ x∈l∧x ∉ m:=by simp [outL,lackB_iff]
theorem nodup_inL {l m:List Int} (h:l.Nodup):(inL l m).Nodup:=h.filter _
theorem nodup_outL {l m:List Int} (h:l.Nodup):(outL l m).Nodup:=h.filter _
theorem outL_self {l m:List Int} (h:∀ x∈l,x ∉ m):outL l m=l:=List.filter_eq_self.2 fun x hx=>lackB_iff.2 (h x hx)
theorem len_outL (l m:List Int):(outL l m).length≤l.length:=List.length_filter_le _ _
theorem len_inL (l m:List Int):(inL l m).length≤l.length:=List.length_filter_le _ _
theorem outL_full {l m:List Int} (h:(outL l m).length=l.length):outL l m=l:=by
 unfold outL at *
 exact List.filter_eq_self.2 (List.length_filter_eq_length_iff.1 h)
structure RightP (p:Pt):Prop where
 id:1≤p.id∧p.id≤16
 min:1≤p.min∧p.min≤5
 epoch:1≤p.epoch∧p.epoch≤1000000000
 ver:1≤p.ver∧p.ver≤1000000000
 isr:p.isr.Nodup∧∀ x∈p.isr,1≤x∧x≤7
 reps:p.reps.Nodup∧∀ x∈p.reps,1≤x∧x≤7
 add:p.add.Nodup∧∀ x∈p.add,1≤x∧x≤7
 rem:p.rem.Nodup∧∀ x∈p.rem,1≤x∧x≤7
 some:p.isr≠[]
 isrIn:∀ x∈p.isr,x∈p.reps
 addIn:∀ x∈p.add,x∈p.reps
 remIn:∀ x∈p.rem,x∈p.reps
 apart:∀ x∈p.rem,x ∉ p.add
 left:outL p.reps p.rem≠[]
 lead:p.leader=0∨p.leader∈p.isr
theorem len_pos {l:List Int}:0<l.length ↔ l≠[]:=by cases l <;> simp
theorem rightB_iff {p:Pt}:rightB p=true ↔ RightP p:=by
 unfold rightB numB listB eachB
 simp only [Bool.and_eq_true,Bool.or_eq_true,decide_eq_true_eq,upB_iff,idsB_iff,List.all_eq_true,hasB_iff,lackB_iff,len_pos]
 constructor
 ·rintro ⟨⟨⟨⟨⟨a,b⟩,c⟩,d⟩,⟨⟨⟨⟨⟨⟨⟨⟨e,f⟩,g⟩,h⟩,i⟩,j⟩,k⟩,l⟩,m⟩,n⟩,o⟩
  exact ⟨a,b,c,d,e,f,g,h,i,j,k,l,m,n,o⟩
 ·rintro ⟨a,b,c,d,e,f,g,h,i,j,k,l,m,n,o⟩
  exact ⟨⟨⟨⟨⟨a,b⟩,c⟩,d⟩,⟨⟨⟨⟨⟨⟨⟨⟨e,f⟩,g⟩,h⟩,i⟩,j⟩,k⟩,l⟩,m⟩,n⟩,o⟩
theorem few_len:∀ (n:Nat) (l:List Int),l.Nodup→(∀ x∈l,1≤x∧x≤(n:Int))→l.length≤n
 | 0,l,_,h=>by
  cases l with
  | nil=>simp
  | cons x r=>have:=h x (by simp);omega
 | n+1,l,hd,h=>by
  have h1:(l.erase ((n:Int)+1)).length≤n:=few_len n _ (hd.erase _) fun x hx=>by
   have:=(hd.mem_erase_iff).1 hx
   have:=h x this.2
   omega
  have:=List.length_erase (a:=((n:Int)+1)) (l:=l)
  split at this <;> omega
theorem ids_len {l:List Int} (h:l.Nodup∧∀ x∈l,1≤x∧x≤7):l.length≤7:=few_len 7 l h.1 h.2
structure Br where
 life:Int
 up:Bool
structure Tp where
 name:ByteArray
 first:Int
 count:Int
structure Im where
 applied:Int
 brs:List (Int × Br)
 tops:List Tp
 parts:List Pt
 eps:List Int
def Im.new:Im:=⟨0,[],[],[],[]⟩
structure Rc where
 kind:Int
 a:Int
 b:Int
 c:Int
 d:Int
 name:ByteArray
 text:ByteArray
 list:List Int
structure RcOk (r:Rc):Prop where
 kind:I64 r.kind
 a:I64 r.a
 b:I64 r.b
 c:I64 r.c
 d:I64 r.d
abbrev BM:=List (Int × Br)
def getB (bs:BM) (n:Int):Option Br:=(bs.find? (fun p=>p.1 == n)).map (·.2)
def insB (x:Int × Br):BM→BM
 | []=>[x]
 | y :: r=>if x.1<y.1 then x :: y :: r else y :: insB x r
def delB (bs:BM) (n:Int):BM:=bs.filter fun p=>!(p.1 == n)
def putB (bs:BM) (n:Int) (b:Br):BM:=insB (n,b) (delB bs n)
def zeroB:Br:=⟨0,false⟩
def valB (bs:BM) (n:Int):Br:=(getB bs n).getD zeroB
def upL (bs:BM):List Int:=(bs.filter fun p=>p.2.up).map (·.1)
def isOfB (c:UInt8):Bool:=(decide (97≤c) && decide (c≤122)) || (decide (48≤c) && decide (c≤57)) || c == 45
def nameB (s:ByteArray):Bool:=upB s.size 32 && s.data.toList.all isOfB
def sameN (s t:ByteArray):Bool:=s.toList == t.toList
def hasT (l:List Tp) (s:ByteArray):Bool:=l.any fun t=>sameN t.name s
def stepP (f:Pt→Pt × Int) (p:Pt):Pt:=if (f p).2=0 then (f p).1 else p
def putOffI (I:Im) (id:Int):Im :=
 { I with brs:=putB I.brs id ⟨(valB I.brs id).life,false⟩,parts:=I.parts.map (stepP fun p=>fenceP p id (upL (putB I.brs id ⟨(valB I.brs id).life,false⟩))) }
def registerI (I:Im) (r:Rc):Im × Int × Int :=
 if !upB r.a 7 || !upB r.b 1000000000 then (I,0,1)
 else if (getB I.brs r.a).isSome && decide (r.b≤(valB I.brs r.a).life) then (I,0,13)
 else ((fun J:Im=>{ J with brs:=putB J.brs r.a ⟨r.b,false⟩ }) (if (valB I.brs r.a).up then putOffI I r.a else I),r.a,0)
def refusedI (I:Im) (r:Rc) (up:Bool):Int :=
 if !upB r.a 7 then 1
 else if (getB I.brs r.a).isNone then 8
 else if r.b≠(valB I.brs r.a).life then 13
 else if (valB I.brs r.a).up=up then 19 else 0
def fenceI (I:Im) (r:Rc):Im × Int × Int :=
 if refusedI I r false≠0 then (I,0,refusedI I r false) else (putOffI I r.a,r.a,0)
def unfenceI (I:Im) (r:Rc):Im × Int × Int :=
 if refusedI I r true≠0 then (I,0,refusedI I r true)
 else ({ I with brs:=putB I.brs r.a ⟨r.b,true⟩,parts:=I.parts.map (stepP fun p=>backP p r.a) },r.a,0)
def roundL (l:List Int) (k n:Nat):List Int:=(List.range n).map fun i=>(l[(k+i) % l.length]?).getD 0
def newP (id:Int) (reps:List Int) (least:Int):Pt:=⟨id,headL reps,1,1,reps,reps,[],[],least⟩
def moreP (n:Nat) (up:List Int) (b:Nat) (c:Int) (k:Nat):List Pt:=(List.range k).map fun (i:Nat)=>newP ((n:Int)+1+(i:Int)) (roundL up i b) c
def topicI (I:Im) (r:Rc):Im × Int × Int :=
 if !nameB r.name || !upB r.a 16 || !upB r.b 5 || !upB r.c r.b then (I,0,1)
 else if hasT I.tops r.name then (I,0,9)
 else if 16<(I.parts.length:Int)+r.a∨((upL I.brs).length:Int)<r.b then (I,0,3)
 else ({ I with tops:=I.tops++[⟨r.name,(I.parts.length:Int)+1,r.a⟩],parts:=I.parts++moreP I.parts.length (upL I.brs) r.b.toNat r.c r.a.toNat },(I.parts.length:Int)+1,0)
def pidI (I:Im) (r:Rc):Im × Int × Int :=
 if r.a<0 then (I,0,1)
 else if (I.eps.length:Int)<r.a then (I,0,8)
 else if r.a=0 then (if 1000≤I.eps.length then (I,0,3) else ({ I with eps:=I.eps++[0] },(I.eps.length:Int)+1,0))
 else if 1000000000≤(I.eps[r.a.toNat - 1]?).getD 0 then (I,0,20)
 else ({ I with eps:=I.eps.set (r.a.toNat - 1) ((I.eps[r.a.toNat - 1]?).getD 0+1) },(I.eps[r.a.toNat - 1]?).getD 0+1,0)
def preferP (bs:BM) (p:Pt):Pt × Int:=if !(valB bs (headL p.reps)).up then (Pt.zero,19) else electP p (headL p.reps)
def turnP (bs:BM) (r:Rc) (p:Pt):Pt × Int :=
 if r.kind=5 then alterP p r.b r.c r.d r.list (upL bs)
 else if r.kind=6 then beginP p r.list (upL bs)
 else if r.kind=7 then cancelP p (upL bs)
 else if r.kind=10 then finishP p (upL bs)
 else preferP bs p
def takeI (ps:List Pt) (r:Pt × Int):List Pt:=if r.2=0 then ps.set (r.1.id - 1).toNat r.1 else ps
def turnI (I:Im) (r:Rc):Im × Int × Int :=
 if !upB r.a I.parts.length then (I,0,8)
 else ({ I with parts:=takeI I.parts (turnP I.brs r (I.parts[r.a.toNat - 1]?.getD Pt.zero)) },(turnP I.brs r (I.parts[r.a.toNat - 1]?.getD Pt.zero)).1.ver,(turnP I.brs r (I.parts[r.a.toNat - 1]?.getD Pt.zero)).2)
def doI (I:Im) (r:Rc):Im × Int × Int :=
 if r.kind=1 then registerI I r
 else if r.kind=2 then fenceI I r
 else if r.kind=3 then unfenceI I r
 else if r.kind=4 then topicI I r
 else if r.kind=5∨r.kind=6∨r.kind=7∨r.kind=10∨r.kind=9 then turnI I r
 else if r.kind=8 then pidI I r
 else (I,0,1)
def nextI (I:Im):Im:={ I with applied:=I.applied+1 }
def applyI (I:Im) (r:Rc):Im × Int × Int:=doI (nextI I) r
def sumT:List Tp→Int
 | []=>0
 | t :: r=>t.count+sumT r
theorem sumT_append:∀ l m:List Tp,sumT (l++m)=sumT l+sumT m
 | [],m=>by simp [sumT]
 | t :: r,m=>by simp only [List.cons_append,sumT,sumT_append r m];omega
theorem sumT_len:∀ l:List Tp,(∀ t∈l,1≤t.count)→(l.length:Int)≤sumT l
 | [],_=>by simp [sumT]
 | t :: r,h=>by
  have h1:=h t (by simp)
  have h2:=sumT_len r (fun x hx=>h x (by simp [hx]))
  simp only [sumT,List.length_cons]
  push_cast
  omega
structure ImOk (I:Im):Prop where
 keys:I.brs.Pairwise (fun p q=>p.1<q.1)
 brs:∀ p∈I.brs,(1≤p.1∧p.1≤7)∧1≤p.2.life∧p.2.life≤1000000000
 parts:∀ (i:Nat) p,I.parts[i]?=some p→RightP p∧p.id=(i:Int)+1
 few:I.parts.length≤16
 tops:sumT I.tops≤16
 name:∀ t∈I.tops,t.name.size≤32
 nums:∀ t∈I.tops,1≤t.first∧t.first≤16∧1≤t.count∧t.count≤16
 eps:I.eps.length≤1000
 epv:∀ x∈I.eps,0≤x∧x≤1000000000
 app:0≤I.applied∧I.applied≤1000000000000
theorem ImOk.topsFew {I:Im} (h:ImOk I):I.tops.length≤16:=by
 have h1:=sumT_len I.tops (fun t ht=>(h.nums t ht).2.2.1)
 have h2:=h.tops
 omega
theorem getB_mem {bs:BM} {n:Int} {b:Br} (h:getB bs n=some b):(n,b)∈bs:=by
 unfold getB at h
 obtain ⟨p,hp,rfl⟩:=Option.map_eq_some_iff.1 h
 have h1:=List.mem_of_find?_eq_some hp
 have h2:=List.find?_some hp
 simp at h2
 rw [← h2]
 exact h1
theorem mem_insB (x p:Int × Br):∀ bs:BM,p∈insB x bs ↔ p=x∨p∈bs
 | []=>by simp [insB]
 | y :: r=>by
  unfold insB
  split
  ·simp
  ·simp [mem_insB x p r]
   constructor
   ·rintro (h | h | h) <;> simp [h]
   ·rintro (h | h | h) <;> simp [h]
theorem mem_putB (bs:BM) (n:Int) (b:Br) (p:Int × Br):p∈putB bs n b ↔ p=(n,b)∨(p∈bs∧p.1≠n):=by
 unfold putB delB
 rw [mem_insB]
 simp
theorem rise_insB (x:Int × Br):∀ bs:BM,bs.Pairwise (fun p q=>p.1<q.1)→(∀ p∈bs,p.1≠x.1)→(insB x bs).Pairwise (fun p q=>p.1<q.1)
 | [],_,_=>by simp [insB]
 | y :: r,h,hx=>by
  have h':=List.pairwise_cons.1 h
  unfold insB
  split
  ·rename_i hlt
   refine List.Pairwise.cons (fun p hp=>?_) h
   rcases List.mem_cons.1 hp with rfl | hp
   ·exact hlt
   ·have:=h'.1 p hp;omega
  ·rename_i hlt
   refine List.Pairwise.cons (fun p hp=>?_) (rise_insB x r h'.2 (fun p hp=>hx p (List.mem_cons_of_mem _ hp)))
   rcases (mem_insB x p r).1 hp with rfl | hp
   ·have:=hx y (by simp);omega
   ·exact h'.1 p hp
theorem rise_putB {bs:BM} (h:bs.Pairwise (fun p q=>p.1<q.1)) (n:Int) (b:Br):(putB bs n b).Pairwise (fun p q=>p.1<q.1):=by
 refine rise_insB _ _ (h.filter _) (fun p hp=>?_)
 have:=(List.mem_filter.1 hp).2
 simpa using this
theorem keys_few {bs:BM} (hk:bs.Pairwise (fun p q=>p.1<q.1)) (hb:∀ p∈bs,1≤p.1∧p.1≤7):bs.length≤7:=by
 have:=few_len 7 (bs.map (·.1)) (by
  have h1:(bs.map (·.1)).Pairwise (·<·):=List.pairwise_map.2 hk
  exact h1.imp (fun h=>by omega)) (by
  intro x hx
  obtain ⟨p,hp,rfl⟩:=List.mem_map.1 hx
  exact hb p hp)
 simpa using this
theorem upL_len (bs:BM):(upL bs).length≤bs.length:=by
 unfold upL
 rw [List.length_map]
 exact List.length_filter_le _ _
theorem upL_ok {I:Im} (h:ImOk I):(upL I.brs).Nodup∧∀ x∈upL I.brs,1≤x∧x≤7:=by
 constructor
 ·have h1:(upL I.brs).Pairwise (·<·):=List.pairwise_map.2 (h.keys.filter _)
  exact h1.imp (fun h=>by omega)
 ·intro x hx
  obtain ⟨p,hp,rfl⟩:=List.mem_map.1 hx
  exact (h.brs p (List.mem_filter.1 hp).1).1
end Go.Proofs.YtcffomhcmilcpaaGreat
namespace Go.Proofs.YtcffomhcmilcpaaGreat
open Go.RowKit Go.Maps
theorem hid {p:Prop} (h:p):Hid p:=h
theorem ret_int {k:IntKind} {a b:Int} (h:a=b):Ending.returned (.int k a)=.returned (.int k b):=by rw [h]
theorem ret_bool {a b:Bool} (h:a=b):Ending.returned (.bool a)=.returned (.bool b):=by rw [h]
theorem cell_blk {w:World} {q:Nat} {cs:Array Value} {T:TypeId} {mk:Nat × Nat} (h:w.heap[q]?=some (.cells cs T mk)) (j:Nat) (u:Value) (hu:cs[j]?=some u):w.cell? ⟨q,j,none⟩=some u:=by
 simp [World.cell?,h,hu]
theorem kept_cell {W W':World} (hb:Below W.heap.size W W') {p:Addr} {u:Value} (hu:W.cell? p=some u):W'.cell? p=some u:=(World.cell?_of_block (hb.block p.block (World.block_lt_of_cell? W _ hu))).trans hu
structure IL (w:World) (v:Value) (l:List Int):Prop where
 shape:∃ a cap,v=.slice a l.length cap∧l.length≤cap∧cap≤maxLen∧(a=none→cap=0)∧(l≠[]→∃ b off,a=some ⟨b,off,none⟩∧b<w.heap.size∧∀ i (h:i<l.length),w.cell? ⟨b,off+i,none⟩=some (.int .i64 l[i]))
 ok:∀ x∈l,I64 x
 few:l.length≤17592186044415
theorem IL.under {w w':World} {v:Value} {l:List Int} (h:IL w v l) (hb:Below w.heap.size w w'):IL w' v l:=by
 obtain ⟨⟨a,cap,e,h1,h2,h3,h4⟩,h5,h6⟩:=h
 refine ⟨⟨a,cap,e,h1,h2,h3,fun hn=>?_⟩,h5,h6⟩
 obtain ⟨b,off,e1,e2,e3⟩:=h4 hn
 exact ⟨b,off,e1,Nat.lt_of_lt_of_le e2 hb.size,fun i hi=>kept_cell hb (e3 i hi)⟩
theorem IL.nil (w:World):IL w (.slice none 0 0) []:=⟨⟨none,0,rfl,Nat.le_refl _,Nat.zero_le _,fun _=>rfl,fun h=>absurd rfl h⟩,(fun x hx=>by cases hx),by simp⟩
theorem IL.len {w:World} {v:Value} {l:List Int} (h:IL w v l):l.length≤maxLen:=by
 have:=h.few
 unfold maxLen
 omega
def In (X:Nat→Prop) (v:Value) (l:List Int):Prop:=l≠[]→∀ b off n c,v=.slice (some ⟨b,off,none⟩) n c→X b
theorem In.mono {X Y:Nat→Prop} {v:Value} {l:List Int} (h:In X v l) (hm:∀ b,X b→Y b):In Y v l:=fun hn b off n c e=>hm b (h hn b off n c e)
theorem In.nil (X:Nat→Prop) (v:Value):In X v []:=fun h=>absurd rfl h
theorem IL.old {w:World} {v:Value} {l:List Int} (h:IL w v l):In (fun b=>b<w.heap.size) v l:=by
 intro hn b off n c e
 obtain ⟨⟨a,cap,e1,h1,h2,h3,h4⟩,h5,h6⟩:=h
 obtain ⟨b',off',e2,e3,_⟩:=h4 hn
 subst e2
 rw [e] at e1
 cases e1
 exact e3
theorem IL.off {w w':World} {v:Value} {l:List Int} {q:Nat} (h:IL w v l) (hq:In (fun b=>b≠q) v l) (hb:∀ b,b≠q→w'.heap[b]?=w.heap[b]?) (hs:w.heap.size≤w'.heap.size):IL w' v l:=by
 obtain ⟨⟨a,cap,rfl,h1,h2,h3,h4⟩,h5,h6⟩:=h
 refine ⟨⟨a,cap,rfl,h1,h2,h3,fun hn=>?_⟩,h5,h6⟩
 obtain ⟨b,off,rfl,e2,e3⟩:=h4 hn
 exact ⟨b,off,rfl,Nat.lt_of_lt_of_le e2 hs,fun i hi=>(World.cell?_of_block (a:=⟨b,off+i,none⟩) (hb b (hq hn b off _ _ rfl))).trans (e3 i hi)⟩
def PartM (w:World) (v:Value) (p:Pt):Prop:=∃ a b c d,v=.agg #[.int .i64 p.id,.int .i64 p.leader,.int .i64 p.epoch,.int .i64 p.ver,a,b,c,d,.int .i64 p.min]∧IL w a p.isr∧IL w b p.reps∧IL w c p.add∧IL w d p.rem∧I64 p.id∧I64 p.leader∧I64 p.epoch∧I64 p.ver∧I64 p.min
theorem PartM.under {w w':World} {v:Value} {p:Pt} (h:PartM w v p) (hb:Below w.heap.size w w'):PartM w' v p:=by
 obtain ⟨a,b,c,d,e,h1,h2,h3,h4,h5⟩:=h
 exact ⟨a,b,c,d,e,h1.under hb,h2.under hb,h3.under hb,h4.under hb,h5⟩
def InP (X:Nat→Prop) (v:Value) (p:Pt):Prop:=∀ i l m ep a b c d n,v=.agg #[i,l,m,ep,a,b,c,d,n]→In X a p.isr∧In X b p.reps∧In X c p.add∧In X d p.rem
theorem InP.mono {X Y:Nat→Prop} {v:Value} {p:Pt} (h:InP X v p) (hm:∀ b,X b→Y b):InP Y v p:=fun i l m ep a b c d n e=>by
 obtain ⟨h1,h2,h3,h4⟩:=h i l m ep a b c d n e
 exact ⟨h1.mono hm,h2.mono hm,h3.mono hm,h4.mono hm⟩
theorem inP_of {X:Nat→Prop} {i l m ep a b c d n:Value} {p:Pt} (h1:In X a p.isr) (h2:In X b p.reps) (h3:In X c p.add) (h4:In X d p.rem):InP X (.agg #[i,l,m,ep,a,b,c,d,n]) p:=fun i' l' m' ep' a' b' c' d' n' e=>by
 cases e
 exact ⟨h1,h2,h3,h4⟩
theorem PartM.off {w w':World} {v:Value} {p:Pt} {q:Nat} (h:PartM w v p) (hq:InP (fun b=>b≠q) v p) (hb:∀ b,b≠q→w'.heap[b]?=w.heap[b]?) (hs:w.heap.size≤w'.heap.size):PartM w' v p:=by
 obtain ⟨a,b,c,d,rfl,h1,h2,h3,h4,h5⟩:=h
 obtain ⟨g1,g2,g3,g4⟩:=hq _ _ _ _ _ _ _ _ _ rfl
 exact ⟨a,b,c,d,rfl,h1.off g1 hb hs,h2.off g2 hb hs,h3.off g3 hb hs,h4.off g4 hb hs,h5⟩
theorem PartM.old {w:World} {v:Value} {p:Pt} (h:PartM w v p):InP (fun b=>b<w.heap.size) v p:=by
 obtain ⟨a,b,c,d,rfl,h1,h2,h3,h4,h5⟩:=h
 exact inP_of h1.old h2.old h3.old h4.old
theorem isUpTo_any (n m:Int) (w:World) (hn:I64 n) (hm:I64 m):Calls Tryz.prog 166 #[.int .i64 n,.int .i64 m] w fun e w'=>e=.returned (.bool (upB n m))∧w=w':=by
 unfold I64 at hn hm
 go_enter Tryz.func166,Tryz.ntmps166
 go_wp2
 all_goals
  go_ret
  refine ⟨ret_bool ?_,rfl⟩
  rw [Bool.eq_iff_iff]
  simp [upB]
  try omega
theorem isBroker_any (n:Int) (w:World) (hn:I64 n):Calls Tryz.prog 157 #[.int .i64 n] w fun e w'=>e=.returned (.bool (upB n 7))∧w=w':=by
 go_enter Tryz.func157,Tryz.ntmps157
 go_wp2_with fail
 refine (isUpTo_any _ _ _ hn (by unfold I64;omega)).mono ?_
 rintro e w1 ⟨rfl,rfl⟩
 go_wp2_with fail
 go_ret
 exact ⟨rfl,rfl⟩
theorem index_any {w:World} {v:Value} {l:List Int} (h:IL w v l) (x:Int) (hx:I64 x):Calls Tryz.prog 188 #[v,.int .i64 x] w fun e w'=>(∃ r:Int,e=.returned (.int .i64 r)∧(hasB l x=true→0≤r)∧(hasB l x=false→r=-1))∧w=w':=by
 have HI:=hid h
 obtain ⟨⟨a,cap,rfl,hcap,hcm,hnn,hat⟩,hok,hfew⟩:=h
 have HA:=hid hat
 have HOK:=hid hok
 have hlen:l.length≤9223372036854775807:=by unfold maxLen at hcm;omega
 clear hat hok hnn hcap hcm
 go_enter Tryz.func188,Tryz.ntmps188
 go_wp2_with fail
 go_loopg [8] l.length (fun kx s8 wr=>∃ k:Nat,k≤l.length∧l.length - k≤kx∧s8=.int .i64 (k:Int)∧Hid (x ∉ l.take k)∧wr=w)
 case atStart=>exact ⟨0,Nat.zero_le _,by omega,rfl,by show _ ∉ _;simp,rfl⟩
 case round =>
  obtain ⟨k,hk,hkx,rfl,HM,rfl⟩:=hrel
  by_cases hlt:k<l.length
  ·obtain ⟨b,off,rfl,hb,hc⟩:=HA.out (by intro e;rw [e] at hlt;simp at hlt)
   have hck:=hc k hlt
   have hok:=HOK.out l[k] (by simp)
   unfold I64 at hok
   have HT:Hid (l.take (k+1)=l.take k++[l[k]]):=List.take_succ_eq_append_getElem hlt
   have HG:Hid (l[k]∈l):=by show _∈_;simp
   have hlt':(k:Int)<(l.length:Int):=by omega
   clear hc
   by_cases he:x=l[k]
   ·have HE:=hid he
    clear he
    rw [← HE.out] at hck
    go_wp2_with fail
    go_ret
    exact ⟨⟨_,rfl,fun _=>by omega,fun hf=>by
     have:=HG.out
     rw [← HE.out] at this
     rw [hasB_iff.2 this] at hf
     cases hf⟩,rfl⟩
   ·generalize l[k]=y at *
    go_wp2_with fail
    go_roundg (l.length - (k+1))
    case measure=>omega
    case rel=>exact ⟨k+1,by omega,Nat.le_refl _,by go_num,by show _ ∉ _;rw [HT.out];simp;exact ⟨HM.out,he⟩,rfl⟩
  ·have hlt':¬ (k:Int)<(l.length:Int):=by omega
   go_wp2_with fail
   go_ret
   have HN:=HM.out
   rw [List.take_of_length_le (by omega)] at HN
   exact ⟨⟨_,rfl,fun ht=>absurd (hasB_iff.1 ht) HN,fun _=>rfl⟩,rfl⟩
theorem contains_any {w:World} {v:Value} {l:List Int} (h:IL w v l) (x:Int) (hx:I64 x):Calls Tryz.prog 171 #[v,.int .i64 x] w fun e w'=>e=.returned (.bool (hasB l x))∧w=w':=by
 have HC:=hid (index_any h x hx)
 obtain ⟨⟨a,cap,rfl,_⟩,_⟩:=h
 generalize hasB l x=B at *
 go_enter Tryz.func171,Tryz.ntmps171
 go_wp2_with fail
 refine HC.out.mono ?_
 rintro e w1 ⟨⟨r,rfl,h1,h2⟩,rfl⟩
 cases B with
 | true =>
  have hr:=h1 rfl
  clear h1 h2
  go_wp2_with fail
  go_ret
  exact ⟨ret_bool (by simp [hr]),rfl⟩
 | false =>
  have hr:=h2 rfl
  subst hr
  clear h1 h2
  go_wp2_with fail
  go_ret
  exact ⟨rfl,rfl⟩
theorem has_any {w:World} {v:Value} {l:List Int} (h:IL w v l) (x:Int) (hx:I64 x):Calls Tryz.prog 138 #[v,.int .i64 x] w fun e w'=>e=.returned (.bool (hasB l x))∧w=w':=by
 have HC:=hid (contains_any h x hx)
 obtain ⟨⟨a,cap,rfl,_⟩,_⟩:=h
 generalize hasB l x=B at *
 go_enter Tryz.func138,Tryz.ntmps138
 go_wp2_with fail
 refine HC.out.mono ?_
 rintro e w1 ⟨rfl,rfl⟩
 go_wp2_with fail
 go_ret
 exact ⟨rfl,rfl⟩
theorem lacks_any {w:World} {v:Value} {l:List Int} (h:IL w v l) (x:Int) (hx:I64 x):Calls Tryz.prog 158 #[v,.int .i64 x] w fun e w'=>e=.returned (.bool (lackB l x))∧w=w':=by
 have HC:=hid (has_any h x hx)
 obtain ⟨⟨a,cap,rfl,_⟩,_⟩:=h
 have HF:Hid (lackB l x=!hasB l x):=rfl
 generalize lackB l x=B' at *
 generalize hasB l x=B at *
 go_enter Tryz.func158,Tryz.ntmps158
 go_wp2_with fail
 refine HC.out.mono ?_
 rintro e w1 ⟨rfl,rfl⟩
 go_wp2_with fail
 go_ret
 exact ⟨by rw [HF.out];rfl,rfl⟩
theorem cells9 {w:World} {b:Nat} {v0 v1 v2 v3 v4 v5 v6 v7 v8:Value} {T:TypeId} (h:w.heap[b]?=some (.cells #[v0,v1,v2,v3,v4,v5,v6,v7,v8] T)):w.cell? ⟨b,0,none⟩=some v0∧w.cell? ⟨b,1,none⟩=some v1∧w.cell? ⟨b,2,none⟩=some v2∧w.cell? ⟨b,3,none⟩=some v3∧w.cell? ⟨b,4,none⟩=some v4∧w.cell? ⟨b,5,none⟩=some v5∧w.cell? ⟨b,6,none⟩=some v6∧w.cell? ⟨b,7,none⟩=some v7∧w.cell? ⟨b,8,none⟩=some v8:=⟨cell_blk h 0 _ rfl,cell_blk h 1 _ rfl,cell_blk h 2 _ rfl,cell_blk h 3 _ rfl,cell_blk h 4 _ rfl,cell_blk h 5 _ rfl,cell_blk h 6 _ rfl,cell_blk h 7 _ rfl,cell_blk h 8 _ rfl⟩
theorem cells8 {w:World} {b:Nat} {v0 v1 v2 v3 v4 v5 v6 v7:Value} {T:TypeId} (h:w.heap[b]?=some (.cells #[v0,v1,v2,v3,v4,v5,v6,v7] T)):w.cell? ⟨b,0,none⟩=some v0∧w.cell? ⟨b,1,none⟩=some v1∧w.cell? ⟨b,2,none⟩=some v2∧w.cell? ⟨b,3,none⟩=some v3∧w.cell? ⟨b,4,none⟩=some v4∧w.cell? ⟨b,5,none⟩=some v5∧w.cell? ⟨b,6,none⟩=some v6∧w.cell? ⟨b,7,none⟩=some v7:=⟨cell_blk h 0 _ rfl,cell_blk h 1 _ rfl,cell_blk h 2 _ rfl,cell_blk h 3 _ rfl,cell_blk h 4 _ rfl,cell_blk h 5 _ rfl,cell_blk h 6 _ rfl,cell_blk h 7 _ rfl⟩
@[reducible] def RV (k a b c d:Int) (n t:ByteArray) (l:Option Addr) (m o:Nat):Array Value:=#[.int .i64 k,.int .i64 a,.int .i64 b,.int .i64 c,.int .i64 d,.string n,.string t,.slice l m o]
@[reducible] def PL (i l e v:Int) (a:Option Addr) (is:List Int) (c:Nat) (a2:Option Addr) (re:List Int) (c2:Nat) (a3:Option Addr) (ad:List Int) (c3:Nat) (a4:Option Addr) (rm:List Int) (c4:Nat) (m:Int):Array Value:=#[.int .i64 i,.int .i64 l,.int .i64 e,.int .i64 v,.slice a is.length c,.slice a2 re.length c2,.slice a3 ad.length c3,.slice a4 rm.length c4,.int .i64 m]
@[reducible] def PP (p:Pt) (a:Option Addr) (c:Nat) (a2:Option Addr) (c2:Nat) (a3:Option Addr) (c3:Nat) (a4:Option Addr) (c4:Nat):Array Value:=#[.int .i64 p.id,.int .i64 p.leader,.int .i64 p.epoch,.int .i64 p.ver,.slice a p.isr.length c,.slice a2 p.reps.length c2,.slice a3 p.add.length c3,.slice a4 p.rem.length c4,.int .i64 p.min]
@[reducible] def PZ:Array Value:=#[.int .i64 0,.int .i64 0,.int .i64 0,.int .i64 0,.slice none 0 0,.slice none 0 0,.slice none 0 0,.slice none 0 0,.int .i64 0]
theorem info3:∃ i,Tryz.prog.info? 3=some i∧i.zero=some (.int .i64 0)∧i.size=1∧i.bytes=8:=⟨_,rfl,rfl,rfl,rfl⟩
def vals (l:List Int):List Value:=l.map fun x=>.int .i64 x
theorem vals_one (l:List Int):∀ u∈vals l,u.oneCell'=true:=by
 intro u hu
 obtain ⟨x,_,rfl⟩:=List.mem_map.1 hu
 rfl
theorem vals_length (l:List Int):(vals l).length=l.length:=by simp [vals]
theorem add_at (b o i:Nat):(⟨b,o,none⟩:Addr).add i=⟨b,o+i,none⟩:=by unfold Addr.add;split <;> simp_all
theorem IL.of {w:World} {B:Nat} {v:Value} {l:List Int} (h:w.ownsRow B 3 1 v l.length (vals l)) (hok:∀ x∈l,I64 x) (hf:l.length≤17592186044415):IL w v l:=by
 refine ⟨?_,hok,hf⟩
 have hc:=fun g (hg:v.ownBlock=some g)=>World.ownsRow.cells h hg
 have hlt:=World.ownsRow.lt h
 obtain ⟨h1,h2⟩:=h
 rcases h2 with ⟨rfl,h0⟩ | ⟨g,cap,cur,rfl,hB,hg,hnc,hcm,hcs,htk⟩
 ·exact ⟨none,0,by rw [h0],by omega,Nat.zero_le _,fun _=>rfl,fun hne=>absurd (List.eq_nil_of_length_eq_zero h0) hne⟩
 ·refine ⟨some ⟨g,0,none⟩,cap,rfl,hnc,hcm,(fun h=>by cases h),fun hne=>⟨g,0,rfl,(hlt g rfl).2,fun i hi=>?_⟩⟩
  have:=hc g rfl i (.int .i64 l[i]) (by simp [vals,hi])
  rw [add_at] at this
  exact this
theorem in_own {w:World} {B n:Nat} {v:Value} {l:List Int} {xs:List Value} (h:w.ownsRow B 3 1 v n xs):In (fun b=>B≤b) v l:=fun _ b off n c e=>(World.ownsRow.lt h b (by
 rcases h.2 with ⟨e1,_⟩ | ⟨g,cap,cur,e1,_⟩
 ·rw [e1] at e;cases e
 ·rw [e1] at e;cases e;rw [e1];rfl)).1
theorem IL.cells {w:World} {v:Value} {l:List Int} (h:IL w v l) {b off len cap:Nat} (hv:v=.slice (some ⟨b,off,none⟩) len cap) (hne:l≠[]):∀ j u,(vals l)[j]?=some u→w.cell? ((⟨b,off,none⟩:Addr).add j)=some u:=by
 intro j u hu
 obtain ⟨⟨a,c,e,_,_,_,h4⟩,_⟩:=h
 obtain ⟨b',off',e1,e2,e3⟩:=h4 hne
 subst e1
 subst hv
 cases e
 obtain ⟨hj,e4⟩:=List.getElem?_eq_some_iff.1 hu
 rw [vals_length] at hj
 rw [add_at,e3 j hj,← e4]
 simp [vals]
theorem inL_snoc (l:List Int) (m:List Int) (k:Nat) (h:k<l.length):inL (l.take (k+1)) m=inL (l.take k) m++(if hasB m l[k]=true then [l[k]] else []):=by
 rw [List.take_succ_eq_append_getElem h]
 unfold inL
 rw [List.filter_append]
 simp [List.filter_cons]
theorem those39_any {w:World} {v u:Value} {l m:List Int} (h:IL w v l) (hm:IL w u m):Calls Tryz.prog 181 #[v,.func (.func 138) #[] #[],u] w fun e w'=>∃ v',e=.returned v'∧IL w' v' (inL l m)∧In (fun b=>w.heap.size≤b) v' (inL l m)∧Below w.heap.size w w':=by
 have HM:=hid hm
 obtain ⟨i0,hi0,hz0,hz1,hz2⟩:=info3
 obtain ⟨⟨a,cap,rfl,hcap,hcm,hnn,hat⟩,hok,hfew⟩:=h
 obtain ⟨⟨ua,ucap,rfl,_⟩,_⟩:=hm
 have HA:=hid hat
 have HOK:=hid hok
 have hlen:l.length≤maxLen:=by omega
 have hlen2:l.length≤9223372036854775807:=by unfold maxLen at hlen;omega
 clear hat hok hnn hcap hcm
 go_enter Tryz.func181,Tryz.ntmps181
 go_wp2_with fail
 go_loopg [7,12] l.length (fun kx s7 s12 wr=>∃ k:Nat,k≤l.length∧l.length - k≤kx∧s12=.int .i64 (k:Int)∧Hid (wr.ownsRow w.heap.size 3 1 s7 (inL (l.take k) m).length (vals (inL (l.take k) m))∧Below w.heap.size w wr)∧(∃ a n c,s7=.slice a n c))
 case atStart=>exact ⟨0,Nat.zero_le _,by omega,rfl,⟨World.ownsRow_nil _ _ _ _,Below.refl _ _⟩,⟨_,_,_,rfl⟩⟩
 case round =>
  obtain ⟨k,hk,hkx,rfl,HR,⟨a1,n1,c1,rfl⟩⟩:=hrel
  by_cases hlt:k<l.length
  ·obtain ⟨b,off,rfl,hb,hc⟩:=HA.out (by intro e;rw [e] at hlt;simp at hlt)
   have hck:=kept_cell HR.out.2 (hc k hlt)
   have hok:=HOK.out l[k] (by simp)
   have HS:=hid (inL_snoc l m k hlt)
   have H39:=hid (has_any (HM.out.under HR.out.2) l[k] hok)
   have hlt':(k:Int)<(l.length:Int):=by omega
   have hn1:(inL (l.take k) m).length≤k:=by have:=len_inL (l.take k) m;rw [List.length_take] at this;omega
   generalize l[k]=y at *
   clear hc
   cases hB:hasB m y with
   | true =>
    rw [hB] at H39 HS
    rw [if_pos rfl] at HS
    go_wp2_with fail
    refine H39.out.mono ?_
    rintro e w1 ⟨rfl,rfl⟩
    have HX:Hid ((wr.alloc (.cells #[.int .i64 y] 3)).ownsRow w.heap.size 3 1 (.slice a1 n1 c1) (inL (l.take k) m).length (vals (inL (l.take k) m))):=HR.out.1.alloc _
    have HN1:Hid (∀ j u,([.int .i64 y]:List Value)[j]?=some u→(wr.alloc (.cells #[.int .i64 y] 3)).cell? ((⟨wr.heap.size,0,none⟩:Addr).add j)=some u):=fun j u hu=>by
     cases j with
     | zero=>simp at hu;subst hu;rw [add_at];exact cell_blk (heap_alloc_new _ _) 0 _ rfl
     | succ j=>simp at hu
    have HO1:Hid (∀ u∈([.int .i64 y]:List Value),u.oneCell'=true):=fun u hu=>by simp at hu;subst hu;rfl
    have hbs:=HR.out.2.size
    go_wp2_with (at_builtin;go_loud (refine wpList_append_own_at _ rfl _ _ 132 rfl w.heap.size 3 i0 _ 1 8 Tryz.underlying132 hi0 hz0 hz1 hz2 rfl (by decide) _ (inL (l.take k) m).length _ rfl HX.out ⟨wr.heap.size,0,none⟩ 1 1 [.int .i64 y] rfl rfl HN1.out HO1.out (by omega) (by unfold maxLen at hlen;omega) (by simp;omega) ?_);intro v2 w2 hown2 hg2 _ hat2)
    have hsh:∃ a n c,v2=.slice a n c:=by
     rcases hown2.2 with ⟨e,_⟩ | ⟨g,cp,cur,e,_⟩
     ·exact ⟨_,_,_,e⟩
     ·exact ⟨_,_,_,e⟩
    obtain ⟨a2,n2,c2,rfl⟩:=hsh
    have HB2:Hid (Below w.heap.size w w2):=(HR.out.2.alloc hbs _).grown hg2 (by have:=(HR.out.2.alloc hbs (.cells #[.int .i64 y] 3)).size;exact this) (fun j hj=>(World.ownsRow.lt HX.out j hj).1)
    have HW2:=hid hown2
    clear hown2 hg2 hat2
    go_wp2_with fail
    go_roundg (l.length - (k+1))
    case measure=>omega
    case rel=>exact ⟨k+1,by omega,Nat.le_refl _,by go_num,⟨by rw [HS.out];simp only [List.length_append,List.length_cons,List.length_nil,Nat.zero_add,vals,List.map_append,List.map_cons,List.map_nil];exact HW2.out,HB2.out⟩,⟨_,_,_,rfl⟩⟩
   | false =>
    rw [hB] at H39 HS
    rw [if_neg (by simp),List.append_nil] at HS
    go_wp2_with fail
    refine H39.out.mono ?_
    rintro e w1 ⟨rfl,rfl⟩
    go_wp2_with fail
    go_roundg (l.length - (k+1))
    case measure=>omega
    case rel=>exact ⟨k+1,by omega,Nat.le_refl _,by go_num,(by rw [HS.out];exact HR.out),⟨_,_,_,rfl⟩⟩
  ·have hlt':¬ (k:Int)<(l.length:Int):=by omega
   go_wp2_with fail
   go_ret
   have hr:=HR.out
   rw [List.take_of_length_le (by omega)] at hr
   exact ⟨_,rfl,IL.of hr.1 (fun x hx=>HOK.out x (by unfold inL at hx;exact (List.mem_filter.1 hx).1)) (by have:=len_inL l m;omega),in_own hr.1,hr.2⟩
theorem all39_snoc (l m:List Int) (k:Nat) (h:k<l.length):(l.take (k+1)).all (hasB m)=((l.take k).all (hasB m) && hasB m l[k]):=by
 rw [List.take_succ_eq_append_getElem h,List.all_append]
 simp only [List.all_cons,List.all_nil,Bool.and_true]
theorem all39_not (l m:List Int) (k:Nat) (h:k<l.length) (hf:hasB m l[k]=false):l.all (hasB m)=false:=by
 rw [List.all_eq_false]
 exact ⟨l[k],by simp,by simp [hf]⟩
theorem areAll39_any {w:World} {v u:Value} {l m:List Int} (h:IL w v l) (hm:IL w u m):Calls Tryz.prog 169 #[v,.func (.func 138) #[] #[],u] w fun e w'=>e=.returned (.bool (l.all (hasB m)))∧w=w':=by
 have HM:=hid hm
 obtain ⟨⟨a,cap,rfl,hcap,hcm,hnn,hat⟩,hok,hfew⟩:=h
 obtain ⟨⟨ua,ucap,rfl,_⟩,_⟩:=hm
 have HA:=hid hat
 have HOK:=hid hok
 have hlen2:l.length≤9223372036854775807:=by unfold maxLen at hcm;omega
 clear hat hok hnn hcap hcm
 go_enter Tryz.func169,Tryz.ntmps169
 go_wp2_with fail
 go_loopg [11] l.length (fun kx s11 wr=>∃ k:Nat,k≤l.length∧l.length - k≤kx∧s11=.int .i64 (k:Int)∧Hid ((l.take k).all (hasB m)=true)∧wr=w)
 case atStart=>exact ⟨0,Nat.zero_le _,by omega,rfl,by show _=_;simp,rfl⟩
 case round =>
  obtain ⟨k,hk,hkx,rfl,HR,rfl⟩:=hrel
  by_cases hlt:k<l.length
  ·obtain ⟨b,off,rfl,hb,hc⟩:=HA.out (by intro e;rw [e] at hlt;simp at hlt)
   have hck:=hc k hlt
   have hok:=HOK.out l[k] (by simp)
   have HS:=hid (all39_snoc l m k hlt)
   have HN:=hid (all39_not l m k hlt)
   have H39:=hid (has_any HM.out l[k] hok)
   have hlt':(k:Int)<(l.length:Int):=by omega
   generalize l[k]=y at *
   clear hc
   cases hB:hasB m y with
   | true =>
    rw [hB] at H39 HS
    go_wp2_with fail
    refine H39.out.mono ?_
    rintro e w1 ⟨rfl,rfl⟩
    go_wp2_with fail
    go_roundg (l.length - (k+1))
    case measure=>omega
    case rel=>exact ⟨k+1,by omega,Nat.le_refl _,by go_num,(by show _=_;rw [HS.out,HR.out];rfl),rfl⟩
   | false =>
    rw [hB] at H39
    have HN2:=hid (HN.out hB)
    clear hB
    go_wp2_with fail
    refine H39.out.mono ?_
    rintro e w1 ⟨rfl,rfl⟩
    go_wp2_with fail
    go_ret
    exact ⟨by rw [HN2.out];rfl,rfl⟩
  ·have hlt':¬ (k:Int)<(l.length:Int):=by omega
   go_wp2_with fail
   go_ret
   have hr:=HR.out
   rw [List.take_of_length_le (by omega)] at hr
   exact ⟨by rw [hr];rfl,rfl⟩
theorem outL_snoc (l:List Int) (m:List Int) (k:Nat) (h:k<l.length):outL (l.take (k+1)) m=outL (l.take k) m++(if lackB m l[k]=true then [l[k]] else []):=by
 rw [List.take_succ_eq_append_getElem h]
 unfold outL
 rw [List.filter_append]
 simp [List.filter_cons]
theorem those50_any {w:World} {v u:Value} {l m:List Int} (h:IL w v l) (hm:IL w u m):Calls Tryz.prog 181 #[v,.func (.func 158) #[] #[],u] w fun e w'=>∃ v',e=.returned v'∧IL w' v' (outL l m)∧In (fun b=>w.heap.size≤b) v' (outL l m)∧Below w.heap.size w w':=by
 have HM:=hid hm
 obtain ⟨i0,hi0,hz0,hz1,hz2⟩:=info3
 obtain ⟨⟨a,cap,rfl,hcap,hcm,hnn,hat⟩,hok,hfew⟩:=h
 obtain ⟨⟨ua,ucap,rfl,_⟩,_⟩:=hm
 have HA:=hid hat
 have HOK:=hid hok
 have hlen:l.length≤maxLen:=by omega
 have hlen2:l.length≤9223372036854775807:=by unfold maxLen at hlen;omega
 clear hat hok hnn hcap hcm
 go_enter Tryz.func181,Tryz.ntmps181
 go_wp2_with fail
 go_loopg [7,12] l.length (fun kx s7 s12 wr=>∃ k:Nat,k≤l.length∧l.length - k≤kx∧s12=.int .i64 (k:Int)∧Hid (wr.ownsRow w.heap.size 3 1 s7 (outL (l.take k) m).length (vals (outL (l.take k) m))∧Below w.heap.size w wr)∧(∃ a n c,s7=.slice a n c))
 case atStart=>exact ⟨0,Nat.zero_le _,by omega,rfl,⟨World.ownsRow_nil _ _ _ _,Below.refl _ _⟩,⟨_,_,_,rfl⟩⟩
 case round =>
  obtain ⟨k,hk,hkx,rfl,HR,⟨a1,n1,c1,rfl⟩⟩:=hrel
  by_cases hlt:k<l.length
  ·obtain ⟨b,off,rfl,hb,hc⟩:=HA.out (by intro e;rw [e] at hlt;simp at hlt)
   have hck:=kept_cell HR.out.2 (hc k hlt)
   have hok:=HOK.out l[k] (by simp)
   have HS:=hid (outL_snoc l m k hlt)
   have H50:=hid (lacks_any (HM.out.under HR.out.2) l[k] hok)
   have hlt':(k:Int)<(l.length:Int):=by omega
   have hn1:(outL (l.take k) m).length≤k:=by have:=len_outL (l.take k) m;rw [List.length_take] at this;omega
   generalize l[k]=y at *
   clear hc
   cases hB:lackB m y with
   | true =>
    rw [hB] at H50 HS
    rw [if_pos rfl] at HS
    go_wp2_with fail
    refine H50.out.mono ?_
    rintro e w1 ⟨rfl,rfl⟩
    have HX:Hid ((wr.alloc (.cells #[.int .i64 y] 3)).ownsRow w.heap.size 3 1 (.slice a1 n1 c1) (outL (l.take k) m).length (vals (outL (l.take k) m))):=HR.out.1.alloc _
    have HN1:Hid (∀ j u,([.int .i64 y]:List Value)[j]?=some u→(wr.alloc (.cells #[.int .i64 y] 3)).cell? ((⟨wr.heap.size,0,none⟩:Addr).add j)=some u):=fun j u hu=>by
     cases j with
     | zero=>simp at hu;subst hu;rw [add_at];exact cell_blk (heap_alloc_new _ _) 0 _ rfl
     | succ j=>simp at hu
    have HO1:Hid (∀ u∈([.int .i64 y]:List Value),u.oneCell'=true):=fun u hu=>by simp at hu;subst hu;rfl
    have hbs:=HR.out.2.size
    go_wp2_with (at_builtin;go_loud (refine wpList_append_own_at _ rfl _ _ 132 rfl w.heap.size 3 i0 _ 1 8 Tryz.underlying132 hi0 hz0 hz1 hz2 rfl (by decide) _ (outL (l.take k) m).length _ rfl HX.out ⟨wr.heap.size,0,none⟩ 1 1 [.int .i64 y] rfl rfl HN1.out HO1.out (by omega) (by unfold maxLen at hlen;omega) (by simp;omega) ?_);intro v2 w2 hown2 hg2 _ hat2)
    have hsh:∃ a n c,v2=.slice a n c:=by
     rcases hown2.2 with ⟨e,_⟩ | ⟨g,cp,cur,e,_⟩
     ·exact ⟨_,_,_,e⟩
     ·exact ⟨_,_,_,e⟩
    obtain ⟨a2,n2,c2,rfl⟩:=hsh
    have HB2:Hid (Below w.heap.size w w2):=(HR.out.2.alloc hbs _).grown hg2 (by have:=(HR.out.2.alloc hbs (.cells #[.int .i64 y] 3)).size;exact this) (fun j hj=>(World.ownsRow.lt HX.out j hj).1)
    have HW2:=hid hown2
    clear hown2 hg2 hat2
    go_wp2_with fail
    go_roundg (l.length - (k+1))
    case measure=>omega
    case rel=>exact ⟨k+1,by omega,Nat.le_refl _,by go_num,⟨by rw [HS.out];simp only [List.length_append,List.length_cons,List.length_nil,Nat.zero_add,vals,List.map_append,List.map_cons,List.map_nil];exact HW2.out,HB2.out⟩,⟨_,_,_,rfl⟩⟩
   | false =>
    rw [hB] at H50 HS
    rw [if_neg (by simp),List.append_nil] at HS
    go_wp2_with fail
    refine H50.out.mono ?_
    rintro e w1 ⟨rfl,rfl⟩
    go_wp2_with fail
    go_roundg (l.length - (k+1))
    case measure=>omega
    case rel=>exact ⟨k+1,by omega,Nat.le_refl _,by go_num,(by rw [HS.out];exact HR.out),⟨_,_,_,rfl⟩⟩
  ·have hlt':¬ (k:Int)<(l.length:Int):=by omega
   go_wp2_with fail
   go_ret
   have hr:=HR.out
   rw [List.take_of_length_le (by omega)] at hr
   exact ⟨_,rfl,IL.of hr.1 (fun x hx=>HOK.out x (by unfold outL at hx;exact (List.mem_filter.1 hx).1)) (by have:=len_outL l m;omega),in_own hr.1,hr.2⟩
theorem all50_snoc (l m:List Int) (k:Nat) (h:k<l.length):(l.take (k+1)).all (lackB m)=((l.take k).all (lackB m) && lackB m l[k]):=by
 rw [List.take_succ_eq_append_getElem h,List.all_append]
 simp only [List.all_cons,List.all_nil,Bool.and_true]
theorem all50_not (l m:List Int) (k:Nat) (h:k<l.length) (hf:lackB m l[k]=false):l.all (lackB m)=false:=by
 rw [List.all_eq_false]
 exact ⟨l[k],by simp,by simp [hf]⟩
theorem areAll50_any {w:World} {v u:Value} {l m:List Int} (h:IL w v l) (hm:IL w u m):Calls Tryz.prog 169 #[v,.func (.func 158) #[] #[],u] w fun e w'=>e=.returned (.bool (l.all (lackB m)))∧w=w':=by
 have HM:=hid hm
 obtain ⟨⟨a,cap,rfl,hcap,hcm,hnn,hat⟩,hok,hfew⟩:=h
 obtain ⟨⟨ua,ucap,rfl,_⟩,_⟩:=hm
 have HA:=hid hat
 have HOK:=hid hok
 have hlen2:l.length≤9223372036854775807:=by unfold maxLen at hcm;omega
 clear hat hok hnn hcap hcm
 go_enter Tryz.func169,Tryz.ntmps169
 go_wp2_with fail
 go_loopg [11] l.length (fun kx s11 wr=>∃ k:Nat,k≤l.length∧l.length - k≤kx∧s11=.int .i64 (k:Int)∧Hid ((l.take k).all (lackB m)=true)∧wr=w)
 case atStart=>exact ⟨0,Nat.zero_le _,by omega,rfl,by show _=_;simp,rfl⟩
 case round =>
  obtain ⟨k,hk,hkx,rfl,HR,rfl⟩:=hrel
  by_cases hlt:k<l.length
  ·obtain ⟨b,off,rfl,hb,hc⟩:=HA.out (by intro e;rw [e] at hlt;simp at hlt)
   have hck:=hc k hlt
   have hok:=HOK.out l[k] (by simp)
   have HS:=hid (all50_snoc l m k hlt)
   have HN:=hid (all50_not l m k hlt)
   have H50:=hid (lacks_any HM.out l[k] hok)
   have hlt':(k:Int)<(l.length:Int):=by omega
   generalize l[k]=y at *
   clear hc
   cases hB:lackB m y with
   | true =>
    rw [hB] at H50 HS
    go_wp2_with fail
    refine H50.out.mono ?_
    rintro e w1 ⟨rfl,rfl⟩
    go_wp2_with fail
    go_roundg (l.length - (k+1))
    case measure=>omega
    case rel=>exact ⟨k+1,by omega,Nat.le_refl _,by go_num,(by show _=_;rw [HS.out,HR.out];rfl),rfl⟩
   | false =>
    rw [hB] at H50
    have HN2:=hid (HN.out hB)
    clear hB
    go_wp2_with fail
    refine H50.out.mono ?_
    rintro e w1 ⟨rfl,rfl⟩
    go_wp2_with fail
    go_ret
    exact ⟨by rw [HN2.out];rfl,rfl⟩
  ·have hlt':¬ (k:Int)<(l.length:Int):=by omega
   go_wp2_with fail
   go_ret
   have hr:=HR.out
   rw [List.take_of_length_le (by omega)] at hr
   exact ⟨by rw [hr];rfl,rfl⟩
theorem clone70_any {w:World} {v:Value} {l:List Int} (h:IL w v l):Calls Tryz.prog 141 #[v] w fun e w'=>∃ v',e=.returned v'∧IL w' v' l∧In (fun b=>w.heap.size≤b) v' l∧Below w.heap.size w w':=by
 obtain ⟨i0,hi0,hz0,hz1,hz2⟩:=info3
 have HI:=hid h
 obtain ⟨⟨a,cap,rfl,hcap,hcm,hnn,hat⟩,hok,hfew⟩:=h
 have hlen:l.length≤maxLen:=by omega
 have HNIL:=hid (fun W:World=>Lib.run_eql_slice_nil (P:=Tryz.prog) W 132 3 a l.length cap 0 0 Tryz.underlying132)
 have hnil:=fun W:World=>HNIL.out W
 have HOK:=hid hok
 cases a with
 | none =>
  have h0:=hnn rfl
  subst h0
  have hl:l=[]:=List.eq_nil_of_length_eq_zero (by omega)
  subst hl
  have hnil2:∀ W:World,(binOp .eql 132 (.slice none 0 0) (.slice none 0 0)).run Tryz.prog W=.ok (.bool true) W:=fun W=>HNIL.out W
  clear hat hok hnn hcap hcm HNIL hnil
  go_enter Tryz.func141,Tryz.ntmps141
  go_wp2_with fail
  go_ret
  exact ⟨_,rfl,IL.nil _,In.nil _ _,Below.refl _ _⟩
 | some ad =>
  have HROW:Hid ((w.alloc (.cells #[] 3)).ownsRow w.heap.size 3 1 (.slice (some ⟨w.heap.size,0,none⟩) 0 0) 0 []):=⟨rfl,.inr ⟨w.heap.size,0,#[],rfl,Nat.le_refl _,heap_alloc_new _ _,Nat.le_refl _,Nat.zero_le _,rfl,rfl⟩⟩
  have hb0:Below w.heap.size w (w.alloc (.cells #[] 3)):=(Below.refl _ _).alloc (Nat.le_refl _) _
  have HB0:=hid hb0
  have HNW:Hid (∀ j u,(vals l)[j]?=some u→(w.alloc (.cells #[] 3)).cell? (ad.add j)=some u):=by
   by_cases hne:l=[]
   ·subst hne;intro j u hu;simp [vals] at hu
   ·obtain ⟨b,off,e1,_⟩:=hat hne
    cases e1
    exact (HI.out.under hb0).cells rfl hne
  have HON:=hid (vals_one l)
  have HLn:Hid ((vals l).length=l.length*1):=by show _=_;rw [vals_length];omega
  clear hat hok hnn hcap hcm HNIL hb0
  go_enter Tryz.func141,Tryz.ntmps141
  go_wp2_with (at_builtin;refine wpList_append_own_at _ rfl _ _ 132 rfl w.heap.size 3 i0 _ 1 8 Tryz.underlying132 hi0 hz0 hz1 hz2 rfl (by decide) _ 0 [] rfl HROW.out ad l.length cap (vals l) rfl HLn.out HNW.out HON.out (by omega) (by unfold maxLen at hlen;omega) (by simp) ?_;intro v' w2 hown2 hg2 _ hat)
  go_ret
  refine ⟨v',rfl,?_,in_own hown2,HB0.out.grown hg2 HB0.out.size (fun j hj=>by cases hj;exact Nat.le_refl _)⟩
  rw [Nat.zero_add,List.nil_append] at hown2
  exact IL.of hown2 HOK.out hfew
theorem copied_any {w:World} {v:Value} {l:List Int} (h:IL w v l):Calls Tryz.prog 108 #[v] w fun e w'=>∃ v',e=.returned v'∧IL w' v' l∧In (fun b=>w.heap.size≤b) v' l∧Below w.heap.size w w':=by
 have HC:=hid (clone70_any h)
 obtain ⟨⟨a,cap,rfl,_⟩,_⟩:=h
 go_enter Tryz.func108,Tryz.ntmps108
 go_wp2_with fail
 refine HC.out.mono ?_
 rintro e w1 ⟨v',rfl,h1,h3,h2⟩
 have hsh:∃ a n c,v'=.slice a n c:=by obtain ⟨⟨a,cap,e,_⟩,_⟩:=h1;exact ⟨_,_,_,e⟩
 obtain ⟨a2,n2,c2,rfl⟩:=hsh
 have H1:=hid h1
 have H3:=hid h3
 clear h1 h3
 go_wp2_with fail
 go_ret
 exact ⟨_,rfl,H1.out,H3.out,h2⟩
theorem set_box {w:World} {q j:Nat} {cs:Array Value} {T:TypeId} {v:Value} (h:w.heap[q]?=some (.cells cs T)):(w.setCell ⟨q,j,none⟩ v).heap[q]?=some (.cells (cs.setIfInBounds j v) T):=by
 exact heap_setCell_same w q j cs T v h
theorem frz_blk {w:World} {q:Nat} {cs:Array Value} {T:TypeId} (h:w.heap[q]?=some (.cells cs T)) (j:Nat):w.frozen? ⟨q,j,none⟩=false:=by
 simp [World.frozen?,h]
def Seen (w:World) (g:Nat) (l:List Int):Prop:=∃ cs:Array Value,w.heap[g]?=some (.cells cs 186)∧cs.size=8∧∀ j:Nat,j<8→cs[j]?=some (.bool (decide ((j:Int)∈l)))
theorem Seen.cell {w:World} {g:Nat} {l:List Int} (h:Seen w g l) (j:Nat) (hj:j<8):w.cell? ⟨g,j,none⟩=some (.bool (decide ((j:Int)∈l))):=by
 obtain ⟨cs,h1,h2,h3⟩:=h
 exact cell_blk h1 j _ (h3 j hj)
theorem Seen.frz {w:World} {g:Nat} {l:List Int} (h:Seen w g l) (j:Nat):w.frozen? ⟨g,j,none⟩=false:=by
 obtain ⟨cs,h1,h2,h3⟩:=h
 exact frz_blk h1 j
theorem Seen.put {w:World} {g:Nat} {l:List Int} (h:Seen w g l) (n:Nat) (hn:n<8):Seen (w.setCell ⟨g,n,none⟩ (.bool true)) g (l++[(n:Int)]):=by
 obtain ⟨cs,h1,h2,h3⟩:=h
 refine ⟨_,set_box h1,by simp [h2],fun j hj=>?_⟩
 rw [Array.getElem?_setIfInBounds]
 by_cases e:n=j
 ·subst e;simp [h2,hj]
 ·rw [if_neg e,h3 j hj]
  have:¬ ((j:Int)=(n:Int)):=by omega
  simp [this]
theorem ids_not {l:List Int} {x:Int} {k:Nat} (hk:l[k]?=some x) (h:¬ (1≤x∧x≤7)):idsB l=false:=by
 rw [Bool.eq_false_iff]
 intro e
 exact h ((idsB_iff.1 e).2 x (List.mem_of_getElem? hk))
theorem ids_twice {l:List Int} {x:Int} {k:Nat} (hk:l[k]?=some x) (h:x∈l.take k):idsB l=false:=by
 rw [Bool.eq_false_iff]
 intro e
 have hn:=(idsB_iff.1 e).1
 have hlt:=(List.getElem?_eq_some_iff.1 hk).1
 have e1:l=l.take k++l.drop k:=(List.take_append_drop k l).symm
 rw [e1] at hn
 have:=(List.nodup_append.1 hn).2.2 x h x (by
  rw [List.drop_eq_getElem_cons hlt,(List.getElem?_eq_some_iff.1 hk).2];simp)
 exact this rfl
theorem ids_snoc {l:List Int} {x:Int} (h:idsB l=true) (h1:1≤x∧x≤7) (h2:x ∉ l):idsB (l++[x])=true:=by
 rw [idsB_iff] at *
 refine ⟨List.nodup_append.2 ⟨h.1,by simp,fun a ha b hb=>by simp at hb;subst hb;intro e;subst e;exact h2 ha⟩,fun y hy=>?_⟩
 rcases List.mem_append.1 hy with hy | hy
 ·exact h.2 y hy
 ·simp at hy;subst hy;exact h1
theorem areRight_any {w:World} {v:Value} {l:List Int} (h:IL w v l):Calls Tryz.prog 168 #[v] w fun e w'=>e=.returned (.bool (idsB l))∧Below w.heap.size w w':=by
 obtain ⟨⟨a,cap,rfl,hcap,hcm,hnn,hat⟩,hok,hfew⟩:=h
 have HA:=hid hat
 have HOK:=hid hok
 have hlen:l.length≤9223372036854775807:=by omega
 clear hat hok hnn hcap hcm
 go_enter Tryz.func168,Tryz.ntmps168
 go_wp2_with fail
 have hz0:w.heap.size<(w.alloc (.cells #[.bool false,.bool false,.bool false,.bool false,.bool false,.bool false,.bool false,.bool false] 186)).heap.size:=by simp
 have HS0:Hid (Seen (w.alloc (.cells #[.bool false,.bool false,.bool false,.bool false,.bool false,.bool false,.bool false,.bool false] 186)) w.heap.size []):=⟨_,heap_alloc_new w _,rfl,fun j hj=>by
  match j,hj with
  | 0,_=>rfl
  | 1,_=>rfl
  | 2,_=>rfl
  | 3,_=>rfl
  | 4,_=>rfl
  | 5,_=>rfl
  | 6,_=>rfl
  | 7,_=>rfl⟩
 have HB0:Hid (Below w.heap.size w (w.alloc (.cells #[.bool false,.bool false,.bool false,.bool false,.bool false,.bool false,.bool false,.bool false] 186))):=(Below.refl _ _).alloc (Nat.le_refl _) _
 generalize w.alloc (.cells #[.bool false,.bool false,.bool false,.bool false,.bool false,.bool false,.bool false,.bool false] 186)=W at *
 go_loopg [8] l.length (fun kx s8 wr=>∃ k:Nat,k≤l.length∧l.length - k≤kx∧s8=.int .i64 (k:Int)∧Hid (Seen wr w.heap.size (l.take k)∧Below w.heap.size w wr∧idsB (l.take k)=true))
 case atStart=>exact ⟨0,Nat.zero_le _,by omega,rfl,by rw [List.take_zero];exact HS0.out,HB0.out,rfl⟩
 case round =>
  obtain ⟨k,hk,hkx,rfl,HR⟩:=hrel
  by_cases hlt:k<l.length
  ·obtain ⟨b,off,rfl,hb,hc⟩:=HA.out (by intro e;rw [e] at hlt;simp at hlt)
   have hck:=kept_cell HR.out.2.1 (hc k hlt)
   have hok:=HOK.out l[k] (by simp)
   have HX:Hid (l[k]?=some l[k]):=List.getElem?_eq_getElem hlt
   have HT:Hid (l.take (k+1)=l.take k++[l[k]]):=List.take_succ_eq_append_getElem hlt
   have H58:=hid (fun W'=>isBroker_any l[k] W' hok)
   have hlt':(k:Int)<(l.length:Int):=by omega
   generalize l[k]=y at *
   clear hc
   by_cases hy:1≤y∧y≤7
   ·obtain ⟨n,rfl⟩:∃ n:Nat,y=(n:Int):=⟨y.toNat,by omega⟩
    have hn8:n<8:=by omega
    have hn8':(n:Int)<8:=by omega
    have hn0:(0:Int)≤(n:Int):=by omega
    have HU:Hid (upB (n:Int) 7=true):=upB_iff.2 hy
    have hcs:=HR.out.1.cell n hn8
    have hfz:=HR.out.1.frz n
    have HP:=hid (HR.out.1.put n hn8)
    have HY:=hid hy
    rw [HU.out] at H58
    by_cases hin:(n:Int)∈l.take k
    ·have HF:=hid (ids_twice HX.out hin)
     rw [decide_eq_true hin] at hcs
     clear hin hy
     go_wp2_with fail
     refine (H58.out _).mono ?_
     rintro e w1 ⟨rfl,rfl⟩
     go_wp2_with fail
     go_ret
     exact ⟨by rw [HF.out];rfl,HR.out.2.1⟩
    ·have HF:=hid (ids_snoc HR.out.2.2 hy hin)
     rw [decide_eq_false hin] at hcs
     clear hin hy
     go_wp2_with fail
     refine (H58.out _).mono ?_
     rintro e w1 ⟨rfl,rfl⟩
     go_wp2_with fail
     go_roundg (l.length - (k+1))
     case measure=>omega
     case rel=>exact ⟨k+1,by omega,Nat.le_refl _,by go_num,by rw [HT.out];exact HP.out,HR.out.2.1.setCell (Nat.le_refl _) _,by rw [HT.out];exact HF.out⟩
   ·have HF:=hid (ids_not HX.out hy)
    have HU:Hid (upB y 7=false):=by show _=_;rw [Bool.eq_false_iff];intro e;exact hy (upB_iff.1 e)
    rw [HU.out] at H58
    clear hy
    go_wp2_with fail
    refine (H58.out _).mono ?_
    rintro e w1 ⟨rfl,rfl⟩
    go_wp2_with fail
    go_ret
    exact ⟨by rw [HF.out];rfl,HR.out.2.1⟩
  ·have hlt':¬ (k:Int)<(l.length:Int):=by omega
   go_wp2_with fail
   go_ret
   have hr:=HR.out
   rw [List.take_of_length_le (by omega)] at hr
   exact ⟨by rw [hr.2.2];rfl,hr.2.1⟩
end Go.Proofs.YtcffomhcmilcpaaGreat
