/- Topics and partitions without memory: what MetaTopics says of an image. -/
import Derived.Test.YtcffomhcmilcpaaGreatC17
import Derived.Test.YtcffomhcmilcpaaGreatC4
import Derived.Sort.OwnSorted
set_option maxRecDepth 100000
set_option maxHeartbeats 20000000
set_option linter.unusedVariables false
set_option linter.unusedSimpArgs false
namespace Go.Proofs.YtcffomhcmilcpaaGreat
structure TopK (n:Int) (I:Im):Prop where
 up:∀ x∈upL I.brs,1≤x∧x≤n
 lead:∀ p∈I.parts,p.leader=headL p.reps
 reps:∀ p∈I.parts,∀ x∈p.reps,1≤x∧x≤n
 names:I.tops.Pairwise (fun s t=>sameN s.name t.name=false)
theorem TopK.new (n:Int):TopK n Im.new:=⟨fun x hx=>by simp [Im.new,upL] at hx,fun p hp=>by simp [Im.new] at hp,fun p hp=>by simp [Im.new] at hp,by simp [Im.new]⟩
theorem upL_put {bs:BM} {m:Int} {b:Br} {x:Int} (h:x∈upL (putB bs m b)):x=m∨x∈upL bs:=by
 unfold upL at h ⊢
 obtain ⟨p,hp,rfl⟩:=List.mem_map.1 h
 obtain ⟨h1,h2⟩:=List.mem_filter.1 hp
 rcases (mem_putB _ _ _ _).1 h1 with rfl | ⟨h3,_⟩
 ·exact .inl rfl
 ·exact .inr (List.mem_map.2 ⟨p,List.mem_filter.2 ⟨h3,h2⟩,rfl⟩)
def Bare (n:Int) (I:Im):Prop:=TopK n I∧I.parts=[]∧I.tops=[]
theorem Bare.new (n:Int):Bare n Im.new:=⟨TopK.new n,rfl,rfl⟩
theorem bare_put {n:Int} {I:Im} (h:Bare n I) {m:Int} (hm:1≤m∧m≤n) (b:Br) (f:Pt→Pt):Bare n { I with brs:=putB I.brs m b,parts:=I.parts.map f }:=by
 obtain ⟨h1,h2,h3⟩:=h
 refine ⟨⟨fun x hx=>?_,?_,?_,?_⟩,by simp [h2],h3⟩
 ·rcases upL_put hx with rfl | hx
  ·exact hm
  ·exact h1.up x hx
 ·intro p hp;simp [h2] at hp
 ·intro p hp;simp [h2] at hp
 ·exact h1.names
theorem bare_apply {n:Int} {I:Im} (h:Bare n I) {r:Rc} (hk:r.kind=1∨r.kind=3) (hm:1≤r.a∧r.a≤n):Bare n (applyI I r).1:=by
 have h0:Bare n (nextI I):=⟨⟨h.1.up,h.1.lead,h.1.reps,h.1.names⟩,h.2.1,h.2.2⟩
 unfold applyI doI
 generalize nextI I=J at h0 ⊢
 rcases hk with e | e
 ·rw [if_pos e]
  unfold registerI
  split
  ·exact h0
  ·split
   ·exact h0
   ·have key:∀ K:Im,Bare n K→Bare n { K with brs:=putB K.brs r.a ⟨r.b,false⟩ }:=fun K hK=>by
     have:=bare_put hK hm ⟨r.b,false⟩ id
     simpa using this
    refine key _ ?_
    split
    ·unfold putOffI
     exact bare_put h0 hm _ _
    ·exact h0
 ·rw [if_neg (by omega),if_neg (by omega),if_pos e]
  unfold unfenceI
  split
  ·exact h0
  ·exact bare_put h0 hm _ _
theorem hasT_false {l:List Tp} {s:ByteArray} (h:hasT l s=false):∀ t∈l,sameN t.name s=false:=by
 unfold hasT at h
 intro t ht
 cases e:sameN t.name s
 ·rfl
 ·have h2:(l.any fun t=>sameN t.name s)=true:=List.any_eq_true.2 ⟨t,ht,e⟩
  rw [h2] at h
  cases h
theorem topk_topic {n:Int} {I:Im} (h:TopK n I) {r:Rc} (hk:r.kind=4):TopK n (applyI I r).1:=by
 have h0:TopK n (nextI I):=⟨h.up,h.lead,h.reps,h.names⟩
 unfold applyI doI
 generalize nextI I=J at h0 ⊢
 rw [if_neg (by omega),if_neg (by omega),if_neg (by omega),if_pos hk]
 unfold topicI
 split
 ·exact h0
 ·rename_i hb
  split
  ·exact h0
  ·rename_i ht
   split
   ·exact h0
   ·rename_i hf
    have hbu:upB r.b 5=true:=by
     simp only [Bool.or_eq_true,Bool.not_eq_true',not_or,Bool.not_eq_false] at hb
     exact hb.1.2
    have h1:=upB_iff.1 hbu
    have hl:0<(upL J.brs).length:=by omega
    refine ⟨h0.up,fun p hp=>?_,fun p hp x hx=>?_,?_⟩
    ·rcases List.mem_append.1 hp with hp | hp
     ·exact h0.lead p hp
     ·obtain ⟨i,_,rfl⟩:=List.mem_map.1 hp
      rfl
    ·rcases List.mem_append.1 hp with hp | hp
     ·exact h0.reps p hp x hx
     ·obtain ⟨i,_,rfl⟩:=List.mem_map.1 hp
      exact h0.up x (roundL_mem hl hx)
    ·refine List.pairwise_append.2 ⟨h0.names,by simp,fun s hs t ht2=>?_⟩
     simp at ht2
     subst ht2
     exact hasT_false (by simpa using ht) s hs
structure Rise (p q:Pt) (k:Int):Prop where
 ver:q.ver=p.ver∨q.ver=p.ver+1
 ep:(q.leader=p.leader∧q.epoch=p.epoch)∨(q.leader≠p.leader∧q.epoch=p.epoch+1)
 lead:q.leader≠0→q.leader≠p.leader→q.leader∈p.isr
 reps:∀ x∈p.reps,x∈q.reps∨k=10∨(k=7∧x∈p.add)
 done:k=10→q.ver≠p.ver→∀ x∈q.reps,x∈p.isr
theorem Rise.refl (p:Pt) (k:Int):Rise p p k:=⟨.inl rfl,.inl ⟨rfl,rfl⟩,fun _ h=>absurd rfl h,fun x hx=>.inl hx,fun _ h=>absurd rfl h⟩
structure LUp (I:Im):Prop where
 up:∀ p∈I.parts,p.leader=0∨p.leader∈upL I.brs
 small:∀ p∈I.parts,p.ver≤I.applied+1∧p.epoch≤I.applied+1
theorem LUp.new:LUp Im.new:=⟨fun p hp=>by simp [Im.new] at hp,fun p hp=>by simp [Im.new] at hp⟩
theorem mem_upL {bs:BM} {n:Int} (h:(valB bs n).up=true):n∈upL bs:=by
 unfold valB at h
 cases e:getB bs n with
 | none=>rw [e] at h;simp [zeroB] at h
 | some b =>
  rw [e] at h
  exact List.mem_map.2 ⟨(n,b),List.mem_filter.2 ⟨getB_mem e,h⟩,rfl⟩
end Go.Proofs.YtcffomhcmilcpaaGreat
namespace Go.Proofs
open Go.RowKit Go.Maps Go.Sort Go.Shelf
def Tryz.sortS_ren:Go.Shelf.Ren:=⟨fun | 6=>64 | 8=>112 | 9=>111 | 19=>154 | 20=>155 | 21=>145 | 22=>146 | 23=>147 | 24=>148 | 25=>149 | 26=>150 | 27=>151 | 28=>152 | 29=>153 | 36=>175 | 31=>176 | 32=>177 | 37=>178 | 38=>179 | 39=>180 | 41=>198 | n=>n,fun | 27=>60 | 29=>9 | 3=>3 | 32=>139 | 26=>60 | 0=>0 | 44=>155 | 46=>124 | 4=>4 | 36=>162 | 35=>161 | 41=>81 | 5=>5 | 9=>9 | 53=>178 | 57=>149 | 63=>193 | 64=>194 | n=>n,fun | n=>n⟩
theorem Tryz.sortS:Go.Proofs.SlLaysM.n6 Tryz.prog Tryz.sortS_ren:={
 mixed:=by kernel_rfl
 f6:=⟨Tryz.f64.name,by decide,Tryz.func64.trans (congrArg some (by kernel_rfl))⟩
 f8:=Tryz.func112.trans (congrArg some (by kernel_rfl))
 f9:=⟨Tryz.f111.name,by decide,Tryz.func111.trans (congrArg some (by kernel_rfl))⟩
 f19:=Tryz.func154.trans (congrArg some (by kernel_rfl))
 f20:=Tryz.func155.trans (congrArg some (by kernel_rfl))
 f21:=⟨Tryz.f145.name,by decide,Tryz.func145.trans (congrArg some (by kernel_rfl))⟩
 f22:=⟨Tryz.f146.name,by decide,Tryz.func146.trans (congrArg some (by kernel_rfl))⟩
 f23:=⟨Tryz.f147.name,by decide,Tryz.func147.trans (congrArg some (by kernel_rfl))⟩
 f24:=⟨Tryz.f148.name,by decide,Tryz.func148.trans (congrArg some (by kernel_rfl))⟩
 f25:=⟨Tryz.f149.name,by decide,Tryz.func149.trans (congrArg some (by kernel_rfl))⟩
 f26:=⟨Tryz.f150.name,by decide,Tryz.func150.trans (congrArg some (by kernel_rfl))⟩
 f27:=⟨Tryz.f151.name,by decide,Tryz.func151.trans (congrArg some (by kernel_rfl))⟩
 f28:=⟨Tryz.f152.name,by decide,Tryz.func152.trans (congrArg some (by kernel_rfl))⟩
 f29:=⟨Tryz.f153.name,by decide,Tryz.func153.trans (congrArg some (by kernel_rfl))⟩
 f31:=Tryz.func176.trans (congrArg some (by kernel_rfl))
 f32:=Tryz.func177.trans (congrArg some (by kernel_rfl))
 f36:=⟨Tryz.f175.name,by decide,Tryz.func175.trans (congrArg some (by kernel_rfl))⟩
 f37:=⟨Tryz.f178.name,by decide,Tryz.func178.trans (congrArg some (by kernel_rfl))⟩
 f38:=⟨Tryz.f179.name,by decide,Tryz.func179.trans (congrArg some (by kernel_rfl))⟩
 f39:=⟨Tryz.f180.name,by decide,Tryz.func180.trans (congrArg some (by kernel_rfl))⟩
 f41:=⟨Tryz.f198.name,by decide,Tryz.func198.trans (congrArg some (by kernel_rfl))⟩
 t0:=Tryz.underlying0
 a0:=Tryz.isAgg0
 z0:=Tryz.sizeOf0
 v0:=Tryz.zeroValue0
 t3:=Tryz.underlying3
 a3:=Tryz.isAgg3
 z3:=Tryz.sizeOf3
 v3:=Tryz.zeroValue3
 t4:=Tryz.underlying4
 a4:=Tryz.isAgg4
 z4:=Tryz.sizeOf4
 v4:=Tryz.zeroValue4
 t5:=Tryz.underlying5
 a5:=Tryz.isAgg5
 z5:=Tryz.sizeOf5
 v5:=Tryz.zeroValue5
 t9:=Tryz.underlying9
 a9:=Tryz.isAgg9
 z9:=Tryz.sizeOf9
 v9:=Tryz.zeroValue9
 t26:=Tryz.underlying60
 a26:=Tryz.isAgg60
 z26:=Tryz.sizeOf60
 v26:=Tryz.zeroValue60
 t27:=Tryz.underlying60
 a27:=Tryz.isAgg60
 z27:=Tryz.sizeOf60
 v27:=Tryz.zeroValue60
 t29:=Tryz.underlying9
 a29:=Tryz.isAgg9
 z29:=Tryz.sizeOf9
 v29:=Tryz.zeroValue9
 t32:=Tryz.underlying139
 a32:=Tryz.isAgg139
 z32:=Tryz.sizeOf139
 v32:=Tryz.zeroValue139
 t35:=Tryz.underlying161
 a35:=Tryz.isAgg161
 z35:=Tryz.sizeOf161
 v35:=Tryz.zeroValue161
 t36:=Tryz.underlying162
 a36:=Tryz.isAgg162
 z36:=Tryz.sizeOf162
 v36:=Tryz.zeroValue162
 t41:=Tryz.underlying81
 a41:=Tryz.isAgg81
 z41:=Tryz.sizeOf81
 v41:=Tryz.zeroValue81
 t44:=Tryz.underlying155
 a44:=Tryz.isAgg155
 z44:=Tryz.sizeOf155
 v44:=Tryz.zeroValue155
 t46:=Tryz.underlying124
 a46:=Tryz.isAgg124
 z46:=Tryz.sizeOf124
 v46:=Tryz.zeroValue124
 t53:=Tryz.underlying178
 a53:=Tryz.isAgg178
 z53:=Tryz.sizeOf178
 v53:=Tryz.zeroValue178
 t57:=Tryz.underlying149
 a57:=Tryz.isAgg149
 z57:=Tryz.sizeOf149
 v57:=Tryz.zeroValue149
 t63:=Tryz.underlying193
 a63:=Tryz.isAgg193
 z63:=Tryz.sizeOf193
 v63:=Tryz.zeroValue193
 t64:=Tryz.underlying194
 a64:=Tryz.isAgg194
 z64:=Tryz.sizeOf194
 v64:=Tryz.zeroValue194 }
end Go.Proofs
namespace Go.Proofs.YtcffomhcmilcpaaGreat
open Go.RowKit Go.Maps Go.Sort
def nmL (l:List Tp):List (List UInt8):=l.map fun t=>t.name.data.toList
def srtL (l:List Tp):List (List UInt8):=(nmL l).mergeSort (fun x y=>decide (x≤y))
theorem enc_name (s:ByteArray):encStr s.data.toList=.string s:=by cases s;simp [encStr]
theorem nm_take {l:List Tp} {k:Nat} (h:k<l.length):(nmL (l.take k)).map encStr++[.string l[k].name]=(nmL (l.take (k+1))).map encStr:=by
 rw [List.take_succ_eq_append_getElem h]
 unfold nmL
 rw [List.map_append,List.map_append]
 show _++[_]=_++[encStr l[k].name.data.toList]
 rw [enc_name]
theorem info9:∃ i,Tryz.prog.info? 9=some i∧i.zero=some (.string ByteArray.empty)∧i.size=1∧i.bytes=16:=⟨_,rfl,rfl,rfl,rfl⟩
def NInv (w wr:World) (T:List Tp) (k:Nat) (v:Value):Prop:=wr.ownsRow w.heap.size 9 1 v k ((nmL (T.take k)).map encStr)∧Below w.heap.size w wr
theorem sort_row {w wr:World} {T:List Tp} {v:Value} (h:NInv w wr T T.length v) (hl:T.length≤16):Calls Tryz.prog 64 #[v] wr fun e w'=>e=.returned (.tuple #[])∧w'.ownsRow w.heap.size 9 1 v T.length ((srtL T).map encStr)∧Below w.heap.size w w':=by
 obtain ⟨h1,h2⟩:=h
 rw [List.take_length] at h1
 have hlen:(nmL T).length=T.length:=by simp [nmL]
 have hown:=h1
 rcases h1.2 with ⟨rfl,h0⟩ | ⟨g,cap,cur,rfl,hbase,hb,k1,k2,k3,k4⟩
 ·refine (AnyM.slices_Sort_string_none Tryz.sortS none 0 wr).mono ?_
  rintro e w' ⟨rfl,rfl⟩
  have e:T=[]:=List.eq_nil_of_length_eq_zero h0
  subst e
  refine ⟨rfl,?_,h2⟩
  simpa [srtL,nmL] using hown
 ·have hH:Holds encStr wr g 0 (nmL T).toArray:=holds_of_block hb (by rw [hlen];simpa using k4)
  have:=AnyM.slices_Sort_string Tryz.sortS g 0 cap (nmL T) wr hH (Array.getElem?_eq_some_iff.1 hb).1 (by omega)
  rw [hlen] at this
  refine this.mono ?_
  rintro e w' ⟨rfl,n,os,rfl⟩
  refine ⟨rfl,?_,h2.grown (grownBy_sorted _) h2.size (fun k hk=>by cases hk;exact hbase)⟩
  have:=ownsRow_sorted (n:=n) (os:=os) (ss:=nmL T) (ts:=srtL T) (by simp [srtL]) hbase hb (by omega) k2 k3
  rw [hlen] at this
  exact this
theorem ktopics_any {w:World} {Z:Nat→Prop} {q:Nat} {I:Im} (hi:Img w Z q I):Calls Tryz.prog 28 #[.pointer (some ⟨q,0,none⟩)] w fun e w'=>∃ v,e=.returned v∧w'.ownsRow w.heap.size 9 1 v I.tops.length ((srtL I.tops).map encStr)∧Below w.heap.size w w':=by
 obtain ⟨j0,hj0,hz0,hz1,hz2⟩:=info9
 obtain ⟨L,b,vt,vp,ve,ps,h,hz4,hz5,hz3⟩:=hi
 have hfew:I.tops.length≤16:=h.ok.topsFew
 obtain ⟨oa,cap,rfl,_,_,_,hat⟩:=row_shape h.tops
 have HI:=hid h
 have c2:=h.c2
 have HN0:Hid (NInv w w I.tops 0 (.slice none 0 0)):=⟨World.ownsRow_nil _ _ _ _,Below.refl _ _⟩
 have HSO:=hid (fun wr v hh=>sort_row (w:=w) (wr:=wr) (T:=I.tops) (v:=v) hh hfew)
 clear hz4 hz5 hz3 h
 go_enter Tryz.func28,Tryz.ntmps28
 go_wp2_with fail
 go_loopg [3,11] I.tops.length (fun kx s3 s11 wr=>∃ (k:Nat) (oa':Option Addr) (c:Nat),k≤I.tops.length∧I.tops.length - k≤kx∧s3=.slice oa' k c∧s11=.int .i64 (k:Int)∧Hid (NInv w wr I.tops k (.slice oa' k c)))
 case atStart=>exact ⟨0,none,0,Nat.zero_le _,by omega,rfl,rfl,HN0.out⟩
 case round =>
  obtain ⟨k,oa',c,hk,hkx,rfl,rfl,HK⟩:=hrel
  clear HN0
  by_cases hlt:k<I.tops.length
  ·obtain ⟨g,rfl⟩:=hat (by omega)
   obtain ⟨k0,k1,k2⟩:=(HI.out.under HK.out.2).top k _ (List.getElem?_eq_getElem hlt)
   have hlt':(k:Int)<(I.tops.length:Int):=by omega
   have HNM:=hid (nm_take hlt)
   have hbs:=HK.out.2.size
   have HB0:=hid HK.out.2
   have HX0:=hid HK.out.1
   generalize I.tops[k]=T at *
   clear c2 HK
   go_upto_region 5 with fail
   have HB1:Hid (Below w.heap.size w (wr.alloc (.cells #[.string T.name,.int .i64 T.first,.int .i64 T.count] 96))):=HB0.out.alloc hbs _
   have HX1:Hid ((wr.alloc (.cells #[.string T.name,.int .i64 T.first,.int .i64 T.count] 96)).ownsRow w.heap.size 9 1 (.slice oa' k c) k ((nmL (I.tops.take k)).map encStr)):=HX0.out.alloc _
   have hc0:(wr.alloc (.cells #[.string T.name,.int .i64 T.first,.int .i64 T.count] 96)).cell? ⟨wr.heap.size,0,none⟩=some (.string T.name):=cell_blk (heap_alloc_new _ _) 0 _ rfl
   have hws:(wr.alloc (.cells #[.string T.name,.int .i64 T.first,.int .i64 T.count] 96)).heap.size=wr.heap.size+1:=by simp
   generalize wr.alloc (.cells #[.string T.name,.int .i64 T.first,.int .i64 T.count] 96)=W1 at *
   have HX:Hid ((W1.alloc (.cells #[.string T.name] 9)).ownsRow w.heap.size 9 1 (.slice oa' k c) k ((nmL (I.tops.take k)).map encStr)):=HX1.out.alloc _
   have HB2:Hid (Below w.heap.size w (W1.alloc (.cells #[.string T.name] 9))):=HB1.out.alloc HB1.out.size _
   have HN1:Hid (∀ j u,([.string T.name]:List Value)[j]?=some u→(W1.alloc (.cells #[.string T.name] 9)).cell? ((⟨W1.heap.size,0,none⟩:Addr).add j)=some u):=fun j u hu=>by
    cases j with
    | zero=>simp at hu;subst hu;rw [add_at];exact cell_blk (heap_alloc_new _ _) 0 _ rfl
    | succ j=>simp at hu
   have HO2:Hid (∀ u∈([.string T.name]:List Value),u.oneCell'=true):=fun u hu=>by simp at hu;subst hu;rfl
   have HWZ:Hid ((W1.alloc (.cells #[.string T.name] 9)).heap.size=W1.heap.size+1):=by show _=_;simp
   have hbs1:=HB1.out.size
   have HWS:=hid hws
   clear hws
   go_wp2_with (at_builtin;go_loud (refine wpList_append_lies _ rfl _ _ 60 rfl w.heap.size 9 j0 _ 1 16 Tryz.underlying60 hj0 hz0 hz1 hz2 rfl (by decide) _ k _ rfl HX.out ⟨W1.heap.size,0,none⟩ 1 1 [.string T.name] rfl rfl HN1.out HO2.out (by decide) (by unfold maxLen;omega) (by omega) (by simp;omega) (W1.heap.size+1) HWZ.out ?_);intro g2 c2 w3 hown3 hg3 hat3 _;have HPS:Hid (NInv w w3 I.tops (k+1) (.slice (some ⟨g2,0,none⟩) (k+1) c2)):=(by rw [HNM.out] at hown3;exact ⟨hown3,HB2.out.grown hg3 HB2.out.size (fun k hk=>(World.ownsRow.lt HX.out k hk).1)⟩);clear hown3 hg3 hat3)
   go_roundg (I.tops.length - (k+1))
   case measure=>omega
   case rel=>exact ⟨k+1,some ⟨g2,0,none⟩,c2,by omega,Nat.le_refl _,rfl,by go_num,HPS.out⟩
  ·have hlt':¬ (k:Int)<(I.tops.length:Int):=by omega
   obtain rfl:k=I.tops.length:=by omega
   go_wp2_with fail
   refine (HSO.out _ _ HK.out).mono ?_
   rintro e w' ⟨rfl,g1,g2⟩
   have G:=hid (And.intro g1 g2)
   clear g1 g2 HK
   go_wp2_with fail
   go_ret
   exact ⟨_,rfl,G.out.1,G.out.2⟩
theorem IS.topics {w W:World} {q:Nat} {I:Im} {X:Nat→Prop} (h:IS w W q I X):Calls Tryz.prog 28 #[.pointer (some ⟨q,0,none⟩)] W fun e w'=>(∃ v,e=.returned v∧w'.ownsRow W.heap.size 9 1 v I.tops.length ((srtL I.tops).map encStr))∧Below W.heap.size W w'∧IS w w' q I X:=by
 obtain ⟨⟨Z,h1,h2⟩,h3,h4⟩:=h
 refine (ktopics_any h1).mono ?_
 rintro e w' ⟨v,rfl,a,hb⟩
 exact ⟨⟨v,rfl,a⟩,hb,IS.under ⟨⟨Z,h1,h2⟩,h3,h4⟩ hb⟩
end Go.Proofs.YtcffomhcmilcpaaGreat
namespace Go.Proofs.YtcffomhcmilcpaaGreat
open Go.RowKit Go.Maps
def idsT (t:Tp):List Int:=(List.range t.count.toNat).map fun (i:Nat)=>t.first+(i:Int)
theorem find_yes {w:World} {Z:Nat→Prop} {q:Nat} {I:Im} (hi:Img w Z q I) (s:ByteArray) (hn:hasT I.tops s=true):Calls Tryz.prog 29 #[.pointer (some ⟨q,0,none⟩),.string s] w fun e w'=>∃ v' t,e=.returned v'∧t∈I.tops∧sameN t.name s=true∧IL w' v' (idsT t)∧In (fun b=>w.heap.size≤b) v' (idsT t)∧Below w.heap.size w w':=by
 obtain ⟨L,b,vt,vp,ve,ps,h,hz1,hz2,hz3⟩:=hi
 have HP:=hid (place_any h s)
 have HI:=hid h
 have hnn:=hid hn
 have hfew:I.tops.length≤16:=h.ok.topsFew
 obtain ⟨oa,cap,rfl,_,_,_,hat⟩:=row_shape h.tops
 clear h hz1 hz2 hz3 hn
 go_enter Tryz.func29,Tryz.ntmps29
 go_wp2_with fail
 refine HP.out.mono ?_
 rintro e w1 ⟨⟨i,rfl,h1,h2,h3⟩,hb1⟩
 obtain ⟨hi0,t,ht,hs⟩:=h1 hnn.out
 obtain ⟨k,rfl⟩:=Int.eq_ofNat_of_zero_le hi0
 rw [Int.toNat_natCast] at ht
 obtain ⟨hlt,_⟩:=List.getElem?_eq_some_iff.1 ht
 obtain ⟨g,rfl⟩:=hat (by omega)
 have HI1:=hid (HI.out.under hb1)
 have hnum:=HI1.out.ok.nums t (List.mem_of_getElem? ht)
 obtain ⟨m,hm⟩:=Int.eq_ofNat_of_zero_le (show 0≤t.count by omega)
 have HIDS:Hid (∀ W,Calls Tryz.prog 66 #[.agg #[.string t.name,.int .i64 t.first,.int .i64 t.count]] W fun e w'=>∃ v',e=.returned v'∧IL w' v' (idsT t)∧In (fun b=>W.heap.size≤b) v' (idsT t)∧Below W.heap.size W w'):=fun W=>by
  have e:idsT t=(List.range m).map fun (i:Nat)=>t.first+(i:Int):=by unfold idsT;rw [hm,Int.toNat_natCast]
  rw [e,hm]
  exact tids_any t.name t.first m W ⟨by omega,by omega⟩ (by omega)
 obtain ⟨k0,k1,k2⟩:=HI1.out.top k _ ht
 have c2:=HI1.out.c2
 have hlt':(k:Int)<(I.tops.length:Int):=by omega
 have HB:=hid hb1
 have HS:=hid hs
 have HT:=hid (List.mem_of_getElem? ht)
 clear h2 hnum hm ht hs hat hi0 h1
 go_wp2_with (go_at_call 66;refine (HIDS.out _).mono ?_;rintro e w2 ⟨v',rfl,g1,g2,g3⟩)
 go_ret
 exact ⟨_,t,rfl,HT.out,HS.out,g1,fun hne b off n c e=>Nat.le_trans HB.out.size (g2 hne b off n c e),HB.out.trans (g3.mono HB.out.size)⟩
end Go.Proofs.YtcffomhcmilcpaaGreat
namespace Go.Proofs.YtcffomhcmilcpaaGreat
open Go.Sort
theorem applied_do (I:Im) (r:Rc):(doI I r).1.applied=I.applied:=by
 unfold doI
 split
 ·unfold registerI
  split
  ·rfl
  ·split
   ·rfl
   ·show (if _ then putOffI I r.a else I).applied=_
    split <;> rfl
 ·split
  ·unfold fenceI
   split <;> rfl
  ·split
   ·unfold unfenceI
    split <;> rfl
   ·split
    ·unfold topicI
     split
     ·rfl
     ·split
      ·rfl
      ·split <;> rfl
    ·split
     ·unfold turnI
      split <;> rfl
     ·split
      ·unfold pidI
       split
       ·rfl
       ·split
        ·rfl
        ·split
         ·split <;> rfl
         ·split <;> rfl
      ·rfl
theorem applied_apply (I:Im) (r:Rc):(applyI I r).1.applied=I.applied+1:=applied_do _ _
end Go.Proofs.YtcffomhcmilcpaaGreat
namespace Go.Proofs.YtcffomhcmilcpaaGreat
theorem up_val {bs:BM} (hk:bs.Pairwise (fun p q=>p.1<q.1)) {x:Int} (h:x∈upL bs):(valB bs x).up=true:=by
 unfold upL at h
 obtain ⟨p,hp,rfl⟩:=List.mem_map.1 h
 obtain ⟨h1,h2⟩:=List.mem_filter.1 hp
 obtain ⟨i,hi,e⟩:=List.getElem_of_mem h1
 rw [valB_at bs hk i p (by rw [← e];exact List.getElem?_eq_getElem hi)]
 exact h2
theorem right_mem {I:Im} (ho:ImOk I) {p:Pt} (hp:p∈I.parts):RightP p:=by
 obtain ⟨i,hi,e⟩:=List.getElem_of_mem hp
 exact (ho.parts i p (by rw [← e];exact List.getElem?_eq_getElem hi)).1
end Go.Proofs.YtcffomhcmilcpaaGreat
