/- The document's decisions without memory: what each makes of a right state,in the document's own order. -/
import Derived.Test.YtcffomhcmilcpaaGreatC27
import Derived.Test.YtcffomhcmilcpaaGreatC9
set_option maxRecDepth 100000
set_option maxHeartbeats 20000000
set_option linter.unusedVariables false
set_option linter.unusedSimpArgs false
namespace Go.Proofs.YtcffomhcmilcpaaGreat
open Go.RowKit Go.Maps
theorem headL_mem {l:List Int} (h:l≠[]):headL l∈l:=by
 cases l with
 | nil=>exact absurd rfl h
 | cons x r=>simp [headL]
theorem out_nil {l:List Int} {b:Int} (hd:l.Nodup) (h:(outL l [b]).length=0):l.length≤1:=by
 have h1:outL l [b]=[]:=List.length_eq_zero_iff.1 h
 have h2:∀ x∈l,x=b:=fun x hx=>by
  by_cases e:x=b
  ·exact e
  ·have:x∈outL l [b]:=mem_outL.2 ⟨hx,by simpa using e⟩
   rw [h1] at this;cases this
 match l,hd,h2 with
 | [],_,_=>simp
 | [x],_,_=>simp
 | x :: y :: r,hd,h2 =>
  have e1:=h2 x (by simp);have e2:=h2 y (by simp)
  simp [e1,e2] at hd
theorem fenIsr_doc {p:Pt} (hr:RightP p) (b:Int):(if (outL p.isr [b]).length=0 then p.isr else outL p.isr [b])=fenIsr p b:=by
 unfold fenIsr
 by_cases h0:(outL p.isr [b]).length=0
 ·have:=out_nil hr.isr.1 h0
  rw [if_pos h0,if_neg (by omega)]
 ·rw [if_neg h0]
  by_cases h1:1<p.isr.length
  ·rw [if_pos h1]
  ·rw [if_neg h1]
   apply outL_full
   have:=len_outL p.isr [b]
   omega
def fenceD (p:Pt) (b:Int) (up:List Int):Pt × Int :=
 if p.leader≠b∧((outL p.isr [b]).length=p.isr.length∨(outL p.isr [b]).length=0) then (p,0)
 else
  if p.leader=b then verP (ledP { p with isr:=fenIsr p b } (headL (docL p.reps (fenIsr p b) (outL up [b]) b))) else verP { p with isr:=fenIsr p b }
theorem doc_up (l a up:List Int) (b:Int):docL l a (outL up [b]) b=outL (inL (inL l a) up) [b]:=by
 unfold docL outL inL
 simp only [List.filter_filter]
 apply List.filter_congr
 intro x _
 by_cases h:x=b
 ·subst h;simp [lackB,hasB]
 ·simp [lackB,hasB,h]
theorem fence_doc {p:Pt} (hr:RightP p) (b:Int) (hb:upB b 7=true) (up:List Int):fenceP p b up=fenceD p b up:=by
 have hB:=upB_iff.1 hb
 have hR:=rightB_iff.2 hr
 have hF:=fenIsr_doc hr b
 unfold fenceP fenceD
 rw [hR,hb]
 simp only [Bool.not_true,Bool.or_self,Bool.false_eq_true,if_false]
 by_cases hl:p.leader=b
 ·have hne:fenL p b up≠p.leader:=by
   unfold fenL
   rw [if_pos hl]
   unfold heirP
   by_cases he:outL (inL (inL (fenP p b).reps (fenP p b).isr) up) [(fenP p b).leader]=[]
   ·rw [he];show (0:Int)≠_;omega
   ·have:=mem_outL.1 (headL_mem he)
    intro e
    exact this.2 (by rw [e];simp [fenP])
  rw [if_neg (fun h=>hne h.1),if_neg (fun h=>h.1 hl),if_pos hl,led_ver,doc_up]
  unfold fenL heirP
  rw [if_pos hl]
  simp only [fenP,hl]
 ·have h1:fenL p b up=p.leader:=by unfold fenL;rw [if_neg hl]
  rw [h1]
  by_cases h2:(outL p.isr [b]).length=p.isr.length∨(outL p.isr [b]).length=0
  ·have h3:fenIsr p b=p.isr:=by
    rw [← hF]
    by_cases h0:(outL p.isr [b]).length=0
    ·rw [if_pos h0]
    ·rw [if_neg h0];exact outL_full (h2.resolve_right h0)
   rw [if_pos ⟨rfl,by rw [h3]⟩,if_pos ⟨hl,h2⟩]
   unfold fenP;rw [h3]
  ·have h3:fenIsr p b=outL p.isr [b]:=by rw [← hF,if_neg (fun e=>h2 (.inr e))]
   rw [if_neg (fun h=>h2 (.inl (by rw [← h3];exact h.2))),if_neg (fun h=>h2 h.2),if_neg hl,ver_changed]
   rfl
theorem alter_doc {p:Pt} (hR:rightB p=true) (l e v:Int) (isr up:List Int):alterP p l e v isr up =
  if e<p.epoch∨(e=p.epoch∧v<p.ver) then (Pt.zero,13) else if p.epoch<e∨p.ver<v then (Pt.zero,14)
  else if l=0∨l≠p.leader then (Pt.zero,19)
  else if !(idsB isr && hasB isr l && isr.all (hasB p.reps) && (outL isr p.isr).all (hasB up)) then (Pt.zero,1)
  else verP { p with isr:=inL p.reps isr }:=by
 unfold alterP
 rw [hR]
 simp only [Bool.not_true,Bool.false_eq_true,if_false]
 unfold heldP
 by_cases h1:e<p.epoch∨(e=p.epoch∧v<p.ver)
 ·rw [if_pos h1,if_pos h1,if_pos (by decide)]
 ·rw [if_neg h1,if_neg h1]
  by_cases h2:p.epoch<e∨p.ver<v
  ·rw [if_pos h2,if_pos h2,if_pos (by decide)]
  ·rw [if_neg h2,if_neg h2,if_neg (by decide)]
   by_cases h3:l=0∨l≠p.leader
   ·rw [if_pos h3,if_pos h3]
   ·rw [if_neg h3,if_neg h3]
    have h4:l=p.leader:=Decidable.not_not.1 fun h=>h3 (.inr h)
    subst h4
    rw [ver_changed]
    rfl
theorem begin_doc {p:Pt} (hR:rightB p=true) (t up:List Int):beginP p t up =
  if !mayB t then (Pt.zero,1) else if movingB p then (Pt.zero,19) else if !(outL t p.reps).all (hasB up) then (Pt.zero,8)
  else if p.reps=t then (p,0) else verP (begP p t):=by
 unfold beginP
 rw [hR,ver_changed]
 simp only [Bool.not_true,Bool.false_or]
 rfl
def setD (p:Pt) (T I:List Int):Pt:={ p with reps:=T,isr:=I,add:=[],rem:=[] }
theorem finish_doc {p:Pt} (hr:RightP p) (up:List Int):finishP p up =
  if !movingB p || !(targetsP p).all (hasB p.isr) then (Pt.zero,19)
  else if p.leader≠0∧hasB (targetsP p) p.leader=false then verP (ledP (setD p (targetsP p) (inL p.isr (targetsP p))) (headL (docL (targetsP p) (inL p.isr (targetsP p)) up 0)))
  else verP (setD p (targetsP p) (inL p.isr (targetsP p))):=by
 have hR:=rightB_iff.2 hr
 have hI:inL p.isr (targetsP p)=outL p.isr p.rem:=by
  unfold inL outL
  apply List.filter_congr
  intro x hx
  have h1:=hr.isrIn x hx
  have:x∈targetsP p ↔ x ∉ p.rem:=by unfold targetsP;rw [mem_outL];exact ⟨fun h=>h.2,fun h=>⟨h1,h⟩⟩
  by_cases h2:x∈p.rem
  ·have h3:¬ x∈targetsP p:=fun h=>this.1 h h2
   simp [hasB,lackB,h2,h3]
  ·have h3:x∈targetsP p:=this.2 h2
   simp [hasB,lackB,h2,h3]
 unfold finishP
 rw [hR]
 simp only [Bool.not_true,Bool.false_eq_true,if_false]
 by_cases h0:(!movingB p || !(targetsP p).all (hasB p.isr))=true
 ·rw [if_pos h0,if_pos h0]
 ·rw [if_neg h0,if_neg h0]
  unfold settledP
  by_cases h1:p.leader≠0∧hasB (targetsP p) p.leader=false
  ·rw [if_pos h1]
   have h2:p.leader ∉ targetsP p:=fun h=>by have:=hasB_iff.2 h;rw [h1.2] at this;cases this
   have h3:p.leader∈p.isr:=hr.lead.resolve_left h1.1
   have h4:p.leader∈p.rem:=Decidable.not_not.1 fun h=>h2 (mem_outL.2 ⟨hr.isrIn _ h3,h⟩)
   rw [led_ver]
   have e1:setD p (targetsP p) (inL p.isr (targetsP p))=setP p p.rem:=by unfold setD setP;rw [hI];rfl
   rw [e1]
   congr 1
   unfold setL
   rw [if_pos (hasB_iff.2 h4)]
   unfold heirP docL
   congr 1
   rw [hI]
   show outL (inL (inL (outL p.reps p.rem) (outL p.isr p.rem)) up) [p.leader]=outL (inL (inL (outL p.reps p.rem) (outL p.isr p.rem)) up) [0]
   generalize hG:inL (inL (outL p.reps p.rem) (outL p.isr p.rem)) up=G
   have hA:∀ x∈G,x ∉ [p.leader]:=fun x hx hm=>by
    rw [← hG] at hx
    have hx1:=(mem_inL.1 (mem_inL.1 hx).1).1
    simp at hm
    subst hm
    exact h2 hx1
   have hZ:∀ x∈G,x ∉ [(0:Int)]:=fun x hx hm=>by
    rw [← hG] at hx
    have hx1:=(mem_outL.1 (mem_inL.1 (mem_inL.1 hx).1).1).1
    have:=hr.reps.2 x hx1
    simp at hm;omega
   rw [outL_self hA,outL_self hZ]
  ·rw [if_neg h1,ver_changed]
   have e1:setD p (targetsP p) (inL p.isr (targetsP p))=setP p p.rem:=by unfold setD setP;rw [hI];rfl
   rw [e1]
   congr 1
   unfold setL
   have h4:p.leader ∉ p.rem:=fun h=>by
    have hz:=hr.rem.2 _ h
    exact h1 ⟨by omega,by
     have:p.leader ∉ targetsP p:=fun hm=>(mem_outL.1 hm).2 h
     simp [hasB,this]⟩
   rw [if_neg (by rw [hasB_iff];exact h4)]
   rfl
theorem cancel_doc {p:Pt} (hr:RightP p) (up:List Int):cancelP p up =
  if !movingB p || p.isr.all (hasB p.add) then (Pt.zero,19)
  else if p.leader≠0∧hasB p.add p.leader=true then verP (ledP (setD p (outL p.reps p.add) (outL p.isr p.add)) (headL (docL (outL p.reps p.add) (outL p.isr p.add) up p.leader)))
  else verP (setD p (outL p.reps p.add) (outL p.isr p.add)):=by
 have hR:=rightB_iff.2 hr
 unfold cancelP
 rw [hR]
 simp only [Bool.not_true,Bool.false_eq_true,if_false]
 by_cases h0:(!movingB p || p.isr.all (hasB p.add))=true
 ·rw [if_pos h0,if_pos h0]
 ·rw [if_neg h0,if_neg h0]
  unfold settledP setL
  by_cases h1:p.leader≠0∧hasB p.add p.leader=true
  ·rw [if_pos h1,led_ver,if_pos h1.2];rfl
  ·rw [if_neg h1,ver_changed]
   have h4:¬ hasB p.add p.leader=true:=fun h=>by
    have hz:=hr.add.2 _ (hasB_iff.1 h)
    exact h1 ⟨by omega,h⟩
   rw [if_neg h4]
   rfl
theorem moving_doc (p:Pt):movingB p=decide (0<p.add.length+p.rem.length):=by
 unfold movingB
 rw [← Bool.decide_or]
 congr 1
 exact propext (by omega)
def NW (w W:World) (v:Value) (l:List Int):Prop:=IL W v l∧In (fun b=>w.heap.size+2≤b) v l
theorem NW.under {w W W':World} {v:Value} {l:List Int} (h:NW w W v l) (hb:Below W.heap.size W W'):NW w W' v l:=⟨h.1.under hb,h.2⟩
theorem NW.ia {w W:World} {v:Value} {l:List Int} (h:NW w W v l):IA w W v l:=⟨h.1,h.2.mono fun b hb=>.inr hb⟩
theorem NW.set {w W:World} {v:Value} {l:List Int} (h:NW w W v l) (j:Nat) (u:Value):NW w (W.setCell ⟨w.heap.size,j,none⟩ u) v l:=⟨(h.ia.set (.inl rfl) j u).1,h.2⟩
theorem NW.nil (w W:World):NW w W (.slice none 0 0) []:=⟨IL.nil _,In.nil _ _⟩
theorem nw_new {w W W':World} {v:Value} {l:List Int} (h:IL W' v l) (hn:In (fun b=>W.heap.size≤b) v l) (hs:w.heap.size+2≤W.heap.size):NW w W' v l:=⟨h,hn.mono fun b hb=>by omega⟩
theorem rout_sl {w:World} {v u:Value} {l m:List Int} (h:IL w v l) (hm:IL w u m):Calls Tryz.prog 130 #[v,u] w fun e w'=>∃ ra rc,e=.returned (.slice ra (outL l m).length rc)∧IL w' (.slice ra (outL l m).length rc) (outL l m)∧In (fun b=>w.heap.size≤b) (.slice ra (outL l m).length rc) (outL l m)∧Below w.heap.size w w' :=
 (routL_any h hm).mono fun e w' ⟨v',e1,e2,e3,e4⟩=>by obtain ⟨va,vc,rfl,_⟩:=e2.shape;exact ⟨va,vc,e1,e2,e3,e4⟩
theorem rin_sl {w:World} {v u:Value} {l m:List Int} (h:IL w v l) (hm:IL w u m):Calls Tryz.prog 131 #[v,u] w fun e w'=>∃ ra rc,e=.returned (.slice ra (inL l m).length rc)∧IL w' (.slice ra (inL l m).length rc) (inL l m)∧In (fun b=>w.heap.size≤b) (.slice ra (inL l m).length rc) (inL l m)∧Below w.heap.size w w' :=
 (rinL_any h hm).mono fun e w' ⟨v',e1,e2,e3,e4⟩=>by obtain ⟨va,vc,rfl,_⟩:=e2.shape;exact ⟨va,vc,e1,e2,e3,e4⟩
theorem rleads_sl {w W:World} {v:Value} {p:Pt} (h:PartM W v p) (hX:InP (fun b=>w.heap.size+2≤b) v p) (l:Int) (hl:I64 l) (he:1≤p.epoch∧p.epoch≤1000000000) {K:Pt} (hK:ledP p l=K):Calls Tryz.prog 127 #[v,.int .i64 l] W fun e w'=>∃ x1 y1 x2 y2 x3 y3 x4 y4,e=.returned (.agg (PP K x1 y1 x2 y2 x3 y3 x4 y4))∧(NW w w' (.slice x1 K.isr.length y1) K.isr∧NW w w' (.slice x2 K.reps.length y2) K.reps∧NW w w' (.slice x3 K.add.length y3) K.add∧NW w w' (.slice x4 K.rem.length y4) K.rem)∧(I64 K.id∧I64 K.leader∧I64 K.epoch∧I64 K.ver∧I64 K.min)∧Below W.heap.size W w':=by
 subst hK
 refine (rleads_any h hX l hl he).mono ?_
 rintro e w' ⟨v',rfl,e2,e3,e4⟩
 obtain ⟨x1,y1,x2,y2,x3,y3,x4,y4,rfl,q1,q2,q3,q4,ii⟩:=e2.open
 obtain ⟨n1,n2,n3,n4⟩:=e3 _ _ _ _ _ _ _ _ _ rfl
 exact ⟨x1,y1,x2,y2,x3,y3,x4,y4,rfl,⟨⟨q1,n1⟩,⟨q2,n2⟩,⟨q3,n3⟩,⟨q4,n4⟩⟩,ii,e4⟩
theorem doc_i64 {w:World} {v:Value} {l:List Int} (h:IL w v l) (a b:List Int) (but:Int):I64 (headL (docL l a b but)):=by
 by_cases e:docL l a b but=[]
 ·rw [e];exact i64z
 ·have:=headL_mem e
  unfold docL at this
  exact h.ok _ (mem_inL.1 (mem_inL.1 (mem_outL.1 this).1).1).1
theorem led_ver0 (p:Pt) (l:Int):(ledP p l).ver=p.ver:=by unfold ledP;split <;> rfl
theorem NW.nine {w W:World} {v:Value} {l:List Int} (h:NW w W v l) (v0 v1 v2 v3 v4 v5 v6 v7 v8:Value):NW w ((((((((((W.setCell ⟨w.heap.size,0,none⟩ (v0)).setCell ⟨w.heap.size,1,none⟩ (v1)).setCell ⟨w.heap.size,2,none⟩ (v2)).setCell ⟨w.heap.size,3,none⟩ (v3)).setCell ⟨w.heap.size,4,none⟩ (v4)).setCell ⟨w.heap.size,5,none⟩ (v5)).setCell ⟨w.heap.size,6,none⟩ (v6)).setCell ⟨w.heap.size,7,none⟩ (v7)).setCell ⟨w.heap.size,8,none⟩ (v8))) v l:=⟨(h.ia.nine v0 v1 v2 v3 v4 v5 v6 v7 v8).1,h.2⟩
theorem rfence_any {w:World} {v u:Value} {p:Pt} {up:List Int} (h:PartM w v p) (b:Int) (hb0:I64 b) (hu:IL w u up) :
  Calls Tryz.prog 124 #[v,.int .i64 b,u] w fun e w'=>Res (fun b=>w.heap.size≤b) w (fenceP p b up) e w':=by
 obtain ⟨id,ld,ep,vr,isr,reps,add,rem,mn⟩:=p
 obtain ⟨a1,c1,a2,c2,a3,c3,a4,c4,rfl,q1,q2,q3,q4,i0,i1,i2,i3,i4⟩:=h.open
 simp only at q1 q2 q3 q4 i0 i1 i2 i3 i4 ⊢
 have Q1:=hid q1
 have Q2:=hid q2
 have Q3:=hid q3
 have Q4:=hid q4
 clear h q1 q2 q3 q4
 obtain ⟨ua,uc,rfl,_⟩:=hu.shape
 have QU:=hid hu
 have HT0:=hid (two_new w (PL id ld ep vr a1 isr c1 a2 reps c2 a3 add c3 a4 rem c4 mn) PZ)
 have G13:Hid (∀ W,Below w.heap.size w W→Calls Tryz.prog 106 #[.agg (PL id ld ep vr a1 isr c1 a2 reps c2 a3 add c3 a4 rem c4 mn)] W fun e w'=>e=.returned (.bool (rightB ⟨id,ld,ep,vr,isr,reps,add,rem,mn⟩))∧Below W.heap.size W w'):=fun W hb=>rright_any ⟨_,_,_,_,rfl,Q1.out.under hb,Q2.out.under hb,Q3.out.under hb,Q4.out.under hb,i0,i1,i2,i3,i4⟩
 have G60:Hid (∀ W,Below w.heap.size w W→Calls Tryz.prog 125 #[.agg (PL id ld ep vr a1 isr c1 a2 reps c2 a3 add c3 a4 rem c4 mn)] W fun e w'=>∃ v',e=.returned v'∧PartM w' v' ⟨id,ld,ep,vr,isr,reps,add,rem,mn⟩∧InP (fun b=>W.heap.size≤b) v' ⟨id,ld,ep,vr,isr,reps,add,rem,mn⟩∧Below W.heap.size W w'):=fun W hb=>rclone_any ⟨_,_,_,_,rfl,Q1.out.under hb,Q2.out.under hb,Q3.out.under hb,Q4.out.under hb,i0,i1,i2,i3,i4⟩
 have HE0:Hid (fenceP ⟨id,ld,ep,vr,isr,reps,add,rem,mn⟩ b up=if !rightB ⟨id,ld,ep,vr,isr,reps,add,rem,mn⟩ || !upB b 7 then (Pt.zero,1) else fenceP ⟨id,ld,ep,vr,isr,reps,add,rem,mn⟩ b up):=by
  show _=_
  unfold fenceP
  by_cases e:(!rightB ⟨id,ld,ep,vr,isr,reps,add,rem,mn⟩ || !upB b 7)=true
  ·rw [if_pos e,if_pos e]
  ·rw [if_neg e,if_neg e]
 have HE:Hid (rightB ⟨id,ld,ep,vr,isr,reps,add,rem,mn⟩=true→upB b 7=true→fenceP ⟨id,ld,ep,vr,isr,reps,add,rem,mn⟩ b up=if ld≠b∧((outL isr [b]).length=isr.length∨(outL isr [b]).length=0) then (⟨id,ld,ep,vr,isr,reps,add,rem,mn⟩,0) else if ld=b then verP (ledP ⟨id,ld,ep,vr,fenIsr ⟨id,ld,ep,vr,isr,reps,add,rem,mn⟩ b,reps,add,rem,mn⟩ (headL (docL reps (fenIsr ⟨id,ld,ep,vr,isr,reps,add,rem,mn⟩ b) (outL up [b]) b))) else verP ⟨id,ld,ep,vr,fenIsr ⟨id,ld,ep,vr,isr,reps,add,rem,mn⟩ b,reps,add,rem,mn⟩):=fun h1 h2=>fence_doc (rightB_iff.1 h1) b h2 up
 have HF:Hid (rightB ⟨id,ld,ep,vr,isr,reps,add,rem,mn⟩=true→(if (outL isr [b]).length=0 then isr else outL isr [b])=fenIsr ⟨id,ld,ep,vr,isr,reps,add,rem,mn⟩ b):=fun h1=>fenIsr_doc (rightB_iff.1 h1) b
 have HBD:Hid (rightB ⟨id,ld,ep,vr,isr,reps,add,rem,mn⟩=true→(1≤ep∧ep≤1000000000)∧(1≤vr∧vr≤1000000000)):=fun e=>⟨(rightB_iff.1 e).epoch,(rightB_iff.1 e).ver⟩
 have G63:Hid (∀ W x1 y1 g,IL W (.slice x1 isr.length y1) isr→IL W (.slice (some ⟨g,0,none⟩) 1 1) [b]→Calls Tryz.prog 130 #[.slice x1 isr.length y1,.slice (some ⟨g,0,none⟩) 1 1] W fun e w'=>∃ ra rc,e=.returned (.slice ra (outL isr [b]).length rc)∧IL w' (.slice ra (outL isr [b]).length rc) (outL isr [b])∧In (fun b=>W.heap.size≤b) (.slice ra (outL isr [b]).length rc) (outL isr [b])∧Below W.heap.size W w'):=fun W x1 y1 g h1 h2=>rout_sl h1 h2
 have G63u:Hid (∀ W g,Below w.heap.size w W→IL W (.slice (some ⟨g,0,none⟩) 1 1) [b]→Calls Tryz.prog 130 #[.slice ua up.length uc,.slice (some ⟨g,0,none⟩) 1 1] W fun e w'=>∃ ra rc,e=.returned (.slice ra (outL up [b]).length rc)∧IL w' (.slice ra (outL up [b]).length rc) (outL up [b])∧In (fun b=>W.heap.size≤b) (.slice ra (outL up [b]).length rc) (outL up [b])∧Below W.heap.size W w'):=fun W g hb h2=>rout_sl (QU.out.under hb) h2
 have G64:Hid (∀ W t1 u1 x2 y2 ra rc,IL W (.slice x2 reps.length y2) reps→IL W (.slice t1 (fenIsr ⟨id,ld,ep,vr,isr,reps,add,rem,mn⟩ b).length u1) (fenIsr ⟨id,ld,ep,vr,isr,reps,add,rem,mn⟩ b)→IL W (.slice ra (outL up [b]).length rc) (outL up [b])→Calls Tryz.prog 133 #[.slice x2 reps.length y2,.slice t1 (fenIsr ⟨id,ld,ep,vr,isr,reps,add,rem,mn⟩ b).length u1,.slice ra (outL up [b]).length rc,.int .i64 b] W fun e w'=>e=.returned (.int .i64 (headL (docL reps (fenIsr ⟨id,ld,ep,vr,isr,reps,add,rem,mn⟩ b) (outL up [b]) b)))∧I64 (headL (docL reps (fenIsr ⟨id,ld,ep,vr,isr,reps,add,rem,mn⟩ b) (outL up [b]) b))∧W=w'):=fun W t1 u1 x2 y2 ra rc h1 h2 h3=>rfirst_any h1 h2 h3 b hb0
 generalize fenceP ⟨id,ld,ep,vr,isr,reps,add,rem,mn⟩ b up=r at *
 generalize fenIsr ⟨id,ld,ep,vr,isr,reps,add,rem,mn⟩ b=T at *
 generalize outL isr [b]=R at *
 have HIH:Hid (I64 (headL (docL reps T (outL up [b]) b))):=doc_i64 Q2.out _ _ _
 generalize headL (docL reps T (outL up [b]) b)=H at *
 generalize outL up [b]=U at *
 generalize rightB ⟨id,ld,ep,vr,isr,reps,add,rem,mn⟩=B1 at *
 clear i0 i1 i2 i3 i4 Q1 Q2 Q3 Q4 QU hu
 go_enter Tryz.func124,Tryz.ntmps124
 go_wp2_with fail
 generalize (w.alloc (.cells (PL id ld ep vr a1 isr c1 a2 reps c2 a3 add c3 a4 rem c4 mn) 54)).alloc (.cells PZ 54)=W0 at *
 refine (G13.out _ HT0.out.b).mono ?_
 rintro e W1 ⟨rfl,hb⟩
 have HT1:=hid (HT0.out.next hb)
 clear hb
 obtain ⟨k0,k1,k2,k3,k4,k5,k6,k7,k8⟩:=cells9 HT1.out.x
 obtain ⟨z0,z1,z2,z3,z4,z5,z6,z7,z8⟩:=cells9 HT1.out.z
 have fx:=frz_blk HT1.out.x
 have fz:=frz_blk HT1.out.z
 cases B1
 ·have HR:Hid (r=(Pt.zero,1)):=by show _=_;rw [HE0.out];simp
  go_wp2_with fail
  exact leaf9 HT1.out rfl Tryz.results124 (n:=.int .i64 1) rfl rfl rfl fun W9 HT9 hsz9 HOFF=>(by rw [HR.out];exact res_err _ HT9.out.b)
 obtain ⟨hep,hvr⟩:=HBD.out rfl
 by_cases hn:b<1
 ·have HR:Hid (r=(Pt.zero,1)):=by
   show _=_
   have h2:upB b 7=false:=by simp [upB];omega
   rw [HE0.out];simp [h2]
  go_wp2_with fail
  exact leaf9 HT1.out rfl Tryz.results124 (n:=.int .i64 1) rfl rfl rfl fun W9 HT9 hsz9 HOFF=>(by rw [HR.out];exact res_err _ HT9.out.b)
 by_cases h7:7<b
 ·have HR:Hid (r=(Pt.zero,1)):=by
   show _=_
   have h2:upB b 7=false:=by simp [upB];omega
   rw [HE0.out];simp [h2]
  go_wp2_with fail
  exact leaf9 HT1.out rfl Tryz.results124 (n:=.int .i64 1) rfl rfl rfl fun W9 HT9 hsz9 HOFF=>(by rw [HR.out];exact res_err _ HT9.out.b)
 have HE2:=hid (HE.out rfl (upB_iff.2 (by omega)))
 have HF2:=hid (HF.out rfl)
 clear HE HF HE0
 go_wp2_with fail
 refine (G60.out _ HT1.out.b).mono ?_
 rintro e W2 ⟨v',rfl,h1,h2,hb⟩
 have h2':=h2.mono (Y:=fun b=>w.heap.size+2≤b) fun b hx=>Nat.le_trans HT1.out.s hx
 obtain ⟨x1,y1,x2,y2,x3,y3,x4,y4,rfl,q1,q2,q3,q4,ii⟩:=h1.open
 obtain ⟨n1,n2,n3,n4⟩:=h2' _ _ _ _ _ _ _ _ _ rfl
 simp only at q1 q2 q3 q4 n1 n2 n3 n4 ii
 have HT2:=hid (HT1.out.next hb)
 have LN:=hid (And.intro n1 (And.intro n2 (And.intro n3 n4)))
 have LB:Hid (IA w W2 (.slice x1 isr.length y1) isr∧IA w W2 (.slice x2 reps.length y2) reps∧IA w W2 (.slice x3 add.length y3) add∧IA w W2 (.slice x4 rem.length y4) rem):=⟨⟨q1,n1.mono fun b hx=>.inr hx⟩,⟨q2,n2.mono fun b hx=>.inr hx⟩,⟨q3,n3.mono fun b hx=>.inr hx⟩,⟨q4,n4.mono fun b hx=>.inr hx⟩⟩
 have HI:=hid ii
 clear q1 q2 q3 q4 n1 n2 n3 n4 ii h1 h2 h2' hb k0 k1 k2 k3 k4 k5 k6 k7 k8 z0 z1 z2 z3 z4 z5 z6 z7 z8 fx fz
 obtain ⟨k0,k1,k2,k3,k4,k5,k6,k7,k8⟩:=cells9 HT2.out.x
 obtain ⟨z0,z1,z2,z3,z4,z5,z6,z7,z8⟩:=cells9 HT2.out.z
 have fx:=frz_blk HT2.out.x
 have fz:=frz_blk HT2.out.z
 go_upto_region 5 with fail
 have HT3:=hid (nine_x HT2.out rfl (.int .i64 id) (.int .i64 ld) (.int .i64 ep) (.int .i64 vr) (.slice x1 isr.length y1) (.slice x2 reps.length y2) (.slice x3 add.length y3) (.slice x4 rem.length y4) (.int .i64 mn))
 have LA:=hid (And.intro (LB.out.1.nine (.int .i64 id) (.int .i64 ld) (.int .i64 ep) (.int .i64 vr) (.slice x1 isr.length y1) (.slice x2 reps.length y2) (.slice x3 add.length y3) (.slice x4 rem.length y4) (.int .i64 mn)) (And.intro (LB.out.2.1.nine (.int .i64 id) (.int .i64 ld) (.int .i64 ep) (.int .i64 vr) (.slice x1 isr.length y1) (.slice x2 reps.length y2) (.slice x3 add.length y3) (.slice x4 rem.length y4) (.int .i64 mn)) (And.intro (LB.out.2.2.1.nine (.int .i64 id) (.int .i64 ld) (.int .i64 ep) (.int .i64 vr) (.slice x1 isr.length y1) (.slice x2 reps.length y2) (.slice x3 add.length y3) (.slice x4 rem.length y4) (.int .i64 mn)) (LB.out.2.2.2.nine (.int .i64 id) (.int .i64 ld) (.int .i64 ep) (.int .i64 vr) (.slice x1 isr.length y1) (.slice x2 reps.length y2) (.slice x3 add.length y3) (.slice x4 rem.length y4) (.int .i64 mn)))))
 clear k0 k1 k2 k3 k4 k5 k6 k7 k8 z0 z1 z2 z3 z4 z5 z6 z7 z8 fx fz LB HT2 HT1
 generalize (((((((((W2.setCell ⟨w.heap.size,0,none⟩ (.int .i64 id)).setCell ⟨w.heap.size,1,none⟩ (.int .i64 ld)).setCell ⟨w.heap.size,2,none⟩ (.int .i64 ep)).setCell ⟨w.heap.size,3,none⟩ (.int .i64 vr)).setCell ⟨w.heap.size,4,none⟩ (.slice x1 isr.length y1)).setCell ⟨w.heap.size,5,none⟩ (.slice x2 reps.length y2)).setCell ⟨w.heap.size,6,none⟩ (.slice x3 add.length y3)).setCell ⟨w.heap.size,7,none⟩ (.slice x4 rem.length y4)).setCell ⟨w.heap.size,8,none⟩ (.int .i64 mn))=W3 at *
 obtain ⟨k0,k1,k2,k3,k4,k5,k6,k7,k8⟩:=cells9 HT3.out.x
 obtain ⟨z0,z1,z2,z3,z4,z5,z6,z7,z8⟩:=cells9 HT3.out.z
 have fx:=frz_blk HT3.out.x
 have fz:=frz_blk HT3.out.z
 have L:Hid (NW w W3 (.slice x1 isr.length y1) isr∧NW w W3 (.slice x2 reps.length y2) reps∧NW w W3 (.slice x3 add.length y3) add∧NW w W3 (.slice x4 rem.length y4) rem):=⟨⟨LA.out.1.1,LN.out.1⟩,⟨LA.out.2.1.1,LN.out.2.1⟩,⟨LA.out.2.2.1.1,LN.out.2.2.1⟩,⟨LA.out.2.2.2.1,LN.out.2.2.2⟩⟩
 clear LA LN
 go_upto_region 6 with fail
 have HO:Hid (NW w (W3.alloc (.cells #[.int .i64 b] 3)) (.slice (some ⟨W3.heap.size,0,none⟩) 1 1) [b]):=⟨il_one (w:=W3) b hb0 _ ((Below.refl _ _).alloc (Nat.le_refl _) _) _ (heap_alloc_new _ _),fun _ b' off n c e=>by cases e;exact HT3.out.s⟩
 have HT4:=hid (HT3.out.alloc (.cells #[.int .i64 b] 3))
 have hA:Below W3.heap.size W3 (W3.alloc (.cells #[.int .i64 b] 3)):=(Below.refl _ _).alloc (Nat.le_refl _) _
 have L4:Hid (NW w (W3.alloc (.cells #[.int .i64 b] 3)) (.slice x1 isr.length y1) isr∧NW w (W3.alloc (.cells #[.int .i64 b] 3)) (.slice x2 reps.length y2) reps∧NW w (W3.alloc (.cells #[.int .i64 b] 3)) (.slice x3 add.length y3) add∧NW w (W3.alloc (.cells #[.int .i64 b] 3)) (.slice x4 rem.length y4) rem):=⟨L.out.1.under hA,L.out.2.1.under hA,L.out.2.2.1.under hA,L.out.2.2.2.under hA⟩
 clear hA HT3 L k0 k1 k2 k3 k4 k5 k6 k7 k8 z0 z1 z2 z3 z4 z5 z6 z7 z8 fx fz
 generalize W3.alloc (.cells #[.int .i64 b] 3)=W4 at *
 generalize W3.heap.size=g at *
 obtain ⟨k0,k1,k2,k3,k4,k5,k6,k7,k8⟩:=cells9 HT4.out.x
 obtain ⟨z0,z1,z2,z3,z4,z5,z6,z7,z8⟩:=cells9 HT4.out.z
 have fx:=frz_blk HT4.out.x
 have fz:=frz_blk HT4.out.z
 go_wp2_with fail
 refine (G63.out _ _ _ _ L4.out.1.1 HO.out.1).mono ?_
 rintro e W5 ⟨ra,rc,rfl,h1,h2,hb⟩
 have HT5:=hid (HT4.out.next hb)
 have L5:Hid (NW w W5 (.slice x1 isr.length y1) isr∧NW w W5 (.slice x2 reps.length y2) reps∧NW w W5 (.slice x3 add.length y3) add∧NW w W5 (.slice x4 rem.length y4) rem):=⟨L4.out.1.under hb,L4.out.2.1.under hb,L4.out.2.2.1.under hb,L4.out.2.2.2.under hb⟩
 have LR:=hid (nw_new (w:=w) h1 h2 HT4.out.s)
 have HO5:=hid (HO.out.under hb)
 clear h1 h2 hb HT4 L4 HO k0 k1 k2 k3 k4 k5 k6 k7 k8 z0 z1 z2 z3 z4 z5 z6 z7 z8 fx fz
 obtain ⟨k0,k1,k2,k3,k4,k5,k6,k7,k8⟩:=cells9 HT5.out.x
 obtain ⟨z0,z1,z2,z3,z4,z5,z6,z7,z8⟩:=cells9 HT5.out.z
 have fx:=frz_blk HT5.out.x
 have fz:=frz_blk HT5.out.z
 go_upto_region 7 with fail
 by_cases h1:ld=b
 ·have c1:(ld != b)=false:=by simp [h1]
  have c2:(ld == b)=true:=by simp [h1]
  have HR:Hid (r=verP (ledP ⟨id,ld,ep,vr,T,reps,add,rem,mn⟩ H)):=by show _=_;rw [HE2.out,if_neg (fun e=>e.1 h1),if_pos h1]
  clear h1 HE2
  obtain ⟨BZ,hBZ⟩:∃ BZ,((R.length:Int) == 0)=BZ:=⟨_,rfl⟩
  have HBZ:=hid hBZ
  go_upto_if 55 with fail
  clear hBZ
  go_cut [] from 54 to 58 (fun W=>∃ t1 u1,Hid (TwoB w W (PL id ld ep vr t1 T u1 x2 reps y2 x3 add y3 x4 rem y4 mn) PZ)∧Hid (NW w W (.slice t1 T.length u1) T∧NW w W (.slice x2 reps.length y2) reps∧NW w W (.slice x3 add.length y3) add∧NW w W (.slice x4 rem.length y4) rem)∧Hid (NW w W (.slice (some ⟨g,0,none⟩) 1 1) [b]))
  case first =>
   cases BZ
   ·have HT':Hid (R=T):=by show _=_;rw [← HF2.out,if_neg (fun e=>by have:=HBZ.out;rw [e] at this;cases this)]
    go_wp2_with fail
    have HT6:Hid (TwoB w (W5.setCell ⟨w.heap.size,4,none⟩ (.slice ra R.length rc)) (PL id ld ep vr ra R rc x2 reps y2 x3 add y3 x4 rem y4 mn) PZ):=HT5.out.setx 4 (.slice ra R.length rc)
    have L6:Hid (NW w (W5.setCell ⟨w.heap.size,4,none⟩ (.slice ra R.length rc)) (.slice ra R.length rc) R∧NW w (W5.setCell ⟨w.heap.size,4,none⟩ (.slice ra R.length rc)) (.slice x2 reps.length y2) reps∧NW w (W5.setCell ⟨w.heap.size,4,none⟩ (.slice ra R.length rc)) (.slice x3 add.length y3) add∧NW w (W5.setCell ⟨w.heap.size,4,none⟩ (.slice ra R.length rc)) (.slice x4 rem.length y4) rem):=⟨(LR.out).set 4 (.slice ra R.length rc),L5.out.2.1.set 4 (.slice ra R.length rc),L5.out.2.2.1.set 4 (.slice ra R.length rc),L5.out.2.2.2.set 4 (.slice ra R.length rc)⟩
    clear HT5 L5 k0 k1 k2 k3 k4 k5 k6 k7 k8 z0 z1 z2 z3 z4 z5 z6 z7 z8 fx fz
    have HO6:=hid (HO5.out.set 4 (.slice ra R.length rc))
    generalize W5.setCell ⟨w.heap.size,4,none⟩ (.slice ra R.length rc)=W6 at *
    obtain ⟨k0,k1,k2,k3,k4,k5,k6,k7,k8⟩:=cells9 HT6.out.x
    obtain ⟨z0,z1,z2,z3,z4,z5,z6,z7,z8⟩:=cells9 HT6.out.z
    have fx:=frz_blk HT6.out.x
    have fz:=frz_blk HT6.out.z
    go_meet
    case rel=>have hT:=HT'.out;subst hT;exact ⟨ra,rc,HT6,L6,HO6⟩
   ·have HT':Hid (isr=T):=by show _=_;rw [← HF2.out,if_pos (by have:=beq_iff_eq.1 HBZ.out;omega)]
    go_wp2_with fail
    go_meet
    case rel=>have hT:=HT'.out;subst hT;exact ⟨x1,y1,HT5,L5,HO5⟩
  case rest =>
   obtain ⟨t1,u1,HT6,L6,HO6⟩:=hcut
   generalize wc=W6 at *
   clear HT5 L5 HO5 LR k0 k1 k2 k3 k4 k5 k6 k7 k8 z0 z1 z2 z3 z4 z5 z6 z7 z8 fx fz
   obtain ⟨k0,k1,k2,k3,k4,k5,k6,k7,k8⟩:=cells9 HT6.out.x
   obtain ⟨z0,z1,z2,z3,z4,z5,z6,z7,z8⟩:=cells9 HT6.out.z
   have fx:=frz_blk HT6.out.x
   have fz:=frz_blk HT6.out.z
   have HKV:=hid (led_ver0 ⟨id,ld,ep,vr,T,reps,add,rem,mn⟩ H)
   have GH:=hid (fun (W:World) ra rc=>G64.out W t1 u1 x2 y2 ra rc)
   generalize hK:ledP ⟨id,ld,ep,vr,T,reps,add,rem,mn⟩ H=K at *
   have HK:=hid hK
   obtain ⟨kid,kld,kep,kvr,kl1,kl2,kl3,kl4,kmn⟩:=K
   have HKV2:Hid (1≤kvr∧kvr≤1000000000):=by show _∧_;have e:kvr=vr:=HKV.out;rw [e];exact hvr
   clear hK HKV
   have G63v:Hid (∀ V,Below W6.heap.size W6 V→Calls Tryz.prog 130 #[.slice ua up.length uc,.slice (some ⟨g,0,none⟩) 1 1] V fun e w'=>∃ ra rc,e=.returned (.slice ra U.length rc)∧IL w' (.slice ra U.length rc) U∧Below W6.heap.size W6 w'):=fun V hb=>(G63u.out V g (HT6.out.b.trans (hb.mono HT6.out.b.size)) (HO6.out.1.under hb)).mono fun e w' ⟨ra,rc,e1,e2,e3,e4⟩=>⟨ra,rc,e1,e2,hb.trans (e4.mono hb.size)⟩
   have G64v:Hid (∀ V ra rc,Below W6.heap.size W6 V→IL V (.slice ra U.length rc) U→Calls Tryz.prog 133 #[.slice x2 reps.length y2,.slice t1 T.length u1,.slice ra U.length rc,.int .i64 b] V fun e w'=>e=.returned (.int .i64 H)∧V=w'):=fun V ra rc hb hU=>(GH.out V ra rc (L6.out.2.1.under hb).1 (L6.out.1.under hb).1 hU).mono fun e w' ⟨e1,e2,e3⟩=>⟨e1,e3⟩
   have G62:Hid (∀ V,Below W6.heap.size W6 V→Calls Tryz.prog 127 #[.agg (PL id ld ep vr t1 T u1 x2 reps y2 x3 add y3 x4 rem y4 mn),.int .i64 H] V fun e w'=>∃ s1 m1 s2 m2 s3 m3 s4 m4,e=.returned (.agg (PL kid kld kep kvr s1 kl1 m1 s2 kl2 m2 s3 kl3 m3 s4 kl4 m4 kmn))∧Hid (NW w w' (.slice s1 kl1.length m1) kl1∧NW w w' (.slice s2 kl2.length m2) kl2∧NW w w' (.slice s3 kl3.length m3) kl3∧NW w w' (.slice s4 kl4.length m4) kl4)∧Hid (I64 kid∧I64 kld∧I64 kep∧I64 kvr∧I64 kmn)∧Below W6.heap.size W6 w'):=fun V hb=>(rleads_sl (w:=w) (W:=V) (v:=.agg (PL id ld ep vr t1 T u1 x2 reps y2 x3 add y3 x4 rem y4 mn)) (p:=⟨id,ld,ep,vr,T,reps,add,rem,mn⟩) ⟨_,_,_,_,rfl,(L6.out.1.under hb).1,(L6.out.2.1.under hb).1,(L6.out.2.2.1.under hb).1,(L6.out.2.2.2.under hb).1,HI.out⟩ (inP_of L6.out.1.2 L6.out.2.1.2 L6.out.2.2.1.2 L6.out.2.2.2.2) H HIH.out hep HK.out).mono fun e w' ⟨s1,m1,s2,m2,s3,m3,s4,m4,e1,e2,e3,e4⟩=>⟨s1,m1,s2,m2,s3,m3,s4,m4,e1,e2,e3,hb.trans (e4.mono hb.size)⟩
   clear GH G64 G63u G63
   go_upto_region 13 with fail
   go_cut [] from 62 to 73 (fun W=>∃ s1 m1 s2 m2 s3 m3 s4 m4,Hid (TwoB w W (PL kid kld kep kvr s1 kl1 m1 s2 kl2 m2 s3 kl3 m3 s4 kl4 m4 kmn) PZ)∧Hid (NW w W (.slice s1 kl1.length m1) kl1∧NW w W (.slice s2 kl2.length m2) kl2∧NW w W (.slice s3 kl3.length m3) kl3∧NW w W (.slice s4 kl4.length m4) kl4)∧Hid (I64 kid∧I64 kld∧I64 kep∧I64 kvr∧I64 kmn))
   case first =>
    have HS:Hid (Below W6.heap.size W6 W6.drew):=(Below.refl _ _).drew
    refine region_last (fun V=>Hid (Below W6.heap.size W6 V)) 11 (by kernel_rfl) ?_
    refine ButLast.take 0 (.agg (PL id ld ep vr t1 T u1 x2 reps y2 x3 add y3 x4 rem y4 mn)) [10] rfl (by kernel_rfl) (by kernel_rfl) (by kernel_rfl) (by kernel_rfl) (by kernel_rfl) (fun _ _ _ h=>h) (Or.inl ⟨by rfl,fun V hV=>by have T:=HT6.out.next hV.out;have k0:=cell_blk T.x 0 _ rfl;have k1:=cell_blk T.x 1 _ rfl;have k2:=cell_blk T.x 2 _ rfl;have k3:=cell_blk T.x 3 _ rfl;have k4:=cell_blk T.x 4 _ rfl;have k5:=cell_blk T.x 5 _ rfl;have k6:=cell_blk T.x 6 _ rfl;have k7:=cell_blk T.x 7 _ rfl;have k8:=cell_blk T.x 8 _ rfl;go_simp⟩) HS ?_
    simp only [Act.put,List.setIfInBounds_toArray,List.set_cons_zero,List.set_cons_succ]
    refine ButLast.take 1 (.pointer (some ⟨w.heap.size,5,none⟩)) [10,9,2] rfl (by kernel_rfl) (by kernel_rfl) (by kernel_rfl) (by kernel_rfl) (by kernel_rfl) (fun _ _ _ h=>h) (Or.inl ⟨by rfl,fun V hV=>by go_simp⟩) HS ?_
    simp only [Act.put,List.setIfInBounds_toArray,List.set_cons_zero,List.set_cons_succ]
    refine ButLast.take 2 (.slice x2 reps.length y2) [10,9] rfl (by kernel_rfl) (by kernel_rfl) (by kernel_rfl) (by kernel_rfl) (by kernel_rfl) (fun _ _ _ h=>h) (Or.inl ⟨by rfl,fun V hV=>by have T:=HT6.out.next hV.out;have k5:=cell_blk T.x 5 _ rfl;go_simp⟩) HS ?_
    simp only [Act.put,List.setIfInBounds_toArray,List.set_cons_zero,List.set_cons_succ]
    refine ButLast.take 3 (.pointer (some ⟨w.heap.size,4,none⟩)) [10,9,4] rfl (by kernel_rfl) (by kernel_rfl) (by kernel_rfl) (by kernel_rfl) (by kernel_rfl) (fun _ _ _ h=>h) (Or.inl ⟨by rfl,fun V hV=>by go_simp⟩) HS ?_
    simp only [Act.put,List.setIfInBounds_toArray,List.set_cons_zero,List.set_cons_succ]
    refine ButLast.take 4 (.slice t1 T.length u1) [10,9] rfl (by kernel_rfl) (by kernel_rfl) (by kernel_rfl) (by kernel_rfl) (by kernel_rfl) (fun _ _ _ h=>h) (Or.inl ⟨by rfl,fun V hV=>by have T:=HT6.out.next hV.out;have k4:=cell_blk T.x 4 _ rfl;go_simp⟩) HS ?_
    simp only [Act.put,List.setIfInBounds_toArray,List.set_cons_zero,List.set_cons_succ]
    refine ButLast.take 5 (.slice ua up.length uc) [10,9,7] rfl (by kernel_rfl) (by kernel_rfl) (by kernel_rfl) (by kernel_rfl) (by kernel_rfl) (fun _ _ _ h=>h) (Or.inl ⟨by rfl,fun V hV=>by go_simp⟩) HS ?_
    simp only [Act.put,List.setIfInBounds_toArray,List.set_cons_zero,List.set_cons_succ]
    refine ButLast.take 6 (.slice (some ⟨g,0,none⟩) 1 1) [10,9,7] rfl (by kernel_rfl) (by kernel_rfl) (by kernel_rfl) (by kernel_rfl) (by kernel_rfl) (fun _ _ _ h=>h) (Or.inl ⟨by rfl,fun V hV=>by go_simp⟩) HS ?_
    simp only [Act.put,List.setIfInBounds_toArray,List.set_cons_zero,List.set_cons_succ]
    refine ButLast.take 8 (.int .i64 b) [10,9] rfl (by kernel_rfl) (by kernel_rfl) (by kernel_rfl) (by kernel_rfl) (by kernel_rfl) (fun _ _ _ h=>h) (Or.inl ⟨by rfl,fun V hV=>by go_simp⟩) HS ?_
    simp only [Act.put,List.setIfInBounds_toArray,List.set_cons_zero,List.set_cons_succ]
    refine ButLast.one 7 (by kernel_rfl) rfl (fun K hK=>?_)
    refine step_go 130 _ _ rfl rfl #[.slice ua up.length uc,.slice (some ⟨g,0,none⟩) 1 1] (by simp [Act.eval]) (by simp [go_sem]) (G63v.out _ HS.out) ?_
    rintro e W7 ⟨ra',rc',rfl,hU,hb⟩
    have HU:=hid hU
    have HS7:=hid hb
    refine ⟨_,rfl,?_⟩
    refine hK.out _ _ (fun _=>HS7) ?_
    clear hK K hb hU HS
    simp only [Act.put,List.setIfInBounds_toArray,List.set_cons_zero,List.set_cons_succ]
    refine ButLast.one 9 (by kernel_rfl) rfl (fun K hK=>?_)
    refine step_go 133 _ _ rfl rfl #[.slice x2 reps.length y2,.slice t1 T.length u1,.slice ra' U.length rc',.int .i64 b] (by simp [Act.eval]) (by simp [go_sem]) (G64v.out _ _ _ HS7.out HU.out) ?_
    rintro e W8 ⟨rfl,rfl⟩
    refine ⟨_,rfl,?_⟩
    refine hK.out _ _ (fun _=>HS7) ?_
    clear hK K
    simp only [Act.put,List.setIfInBounds_toArray,List.set_cons_zero,List.set_cons_succ]
    refine ButLast.one 10 (by kernel_rfl) rfl (fun K hK=>?_)
    refine step_go 127 _ _ rfl rfl #[.agg (PL id ld ep vr t1 T u1 x2 reps y2 x3 add y3 x4 rem y4 mn),.int .i64 H] (by simp [Act.eval]) (by simp [go_sem]) (G62.out _ HS7.out) ?_
    rintro e W8 ⟨s1,m1,s2,m2,s3,m3,s4,m4,rfl,L8,HI8,hb⟩
    have HT8:=hid (HT6.out.next hb)
    refine ⟨_,rfl,?_⟩
    refine hK.out _ _ (fun _=>hid hb) ?_
    clear hK K hb k0 k1 k2 k3 k4 k5 k6 k7 k8 z0 z1 z2 z3 z4 z5 z6 z7 z8 fx fz
    simp only [Act.put,List.setIfInBounds_toArray,List.set_cons_zero,List.set_cons_succ]
    obtain ⟨k0,k1,k2,k3,k4,k5,k6,k7,k8⟩:=cells9 HT8.out.x
    obtain ⟨z0,z1,z2,z3,z4,z5,z6,z7,z8⟩:=cells9 HT8.out.z
    have fx:=frz_blk HT8.out.x
    have fz:=frz_blk HT8.out.z
    refine ButLast.one 11 (by kernel_rfl) rfl (fun K hK=>?_)
    go_simp
    have HT9:=hid (nine_x HT8.out rfl (.int .i64 kid) (.int .i64 kld) (.int .i64 kep) (.int .i64 kvr) (.slice s1 kl1.length m1) (.slice s2 kl2.length m2) (.slice s3 kl3.length m3) (.slice s4 kl4.length m4) (.int .i64 kmn))
    have L9:Hid (NW w ((((((((((W8.setCell ⟨w.heap.size,0,none⟩ (.int .i64 kid)).setCell ⟨w.heap.size,1,none⟩ (.int .i64 kld)).setCell ⟨w.heap.size,2,none⟩ (.int .i64 kep)).setCell ⟨w.heap.size,3,none⟩ (.int .i64 kvr)).setCell ⟨w.heap.size,4,none⟩ (.slice s1 kl1.length m1)).setCell ⟨w.heap.size,5,none⟩ (.slice s2 kl2.length m2)).setCell ⟨w.heap.size,6,none⟩ (.slice s3 kl3.length m3)).setCell ⟨w.heap.size,7,none⟩ (.slice s4 kl4.length m4)).setCell ⟨w.heap.size,8,none⟩ (.int .i64 kmn))) (.slice s1 kl1.length m1) kl1∧NW w ((((((((((W8.setCell ⟨w.heap.size,0,none⟩ (.int .i64 kid)).setCell ⟨w.heap.size,1,none⟩ (.int .i64 kld)).setCell ⟨w.heap.size,2,none⟩ (.int .i64 kep)).setCell ⟨w.heap.size,3,none⟩ (.int .i64 kvr)).setCell ⟨w.heap.size,4,none⟩ (.slice s1 kl1.length m1)).setCell ⟨w.heap.size,5,none⟩ (.slice s2 kl2.length m2)).setCell ⟨w.heap.size,6,none⟩ (.slice s3 kl3.length m3)).setCell ⟨w.heap.size,7,none⟩ (.slice s4 kl4.length m4)).setCell ⟨w.heap.size,8,none⟩ (.int .i64 kmn))) (.slice s2 kl2.length m2) kl2∧NW w ((((((((((W8.setCell ⟨w.heap.size,0,none⟩ (.int .i64 kid)).setCell ⟨w.heap.size,1,none⟩ (.int .i64 kld)).setCell ⟨w.heap.size,2,none⟩ (.int .i64 kep)).setCell ⟨w.heap.size,3,none⟩ (.int .i64 kvr)).setCell ⟨w.heap.size,4,none⟩ (.slice s1 kl1.length m1)).setCell ⟨w.heap.size,5,none⟩ (.slice s2 kl2.length m2)).setCell ⟨w.heap.size,6,none⟩ (.slice s3 kl3.length m3)).setCell ⟨w.heap.size,7,none⟩ (.slice s4 kl4.length m4)).setCell ⟨w.heap.size,8,none⟩ (.int .i64 kmn))) (.slice s3 kl3.length m3) kl3∧NW w ((((((((((W8.setCell ⟨w.heap.size,0,none⟩ (.int .i64 kid)).setCell ⟨w.heap.size,1,none⟩ (.int .i64 kld)).setCell ⟨w.heap.size,2,none⟩ (.int .i64 kep)).setCell ⟨w.heap.size,3,none⟩ (.int .i64 kvr)).setCell ⟨w.heap.size,4,none⟩ (.slice s1 kl1.length m1)).setCell ⟨w.heap.size,5,none⟩ (.slice s2 kl2.length m2)).setCell ⟨w.heap.size,6,none⟩ (.slice s3 kl3.length m3)).setCell ⟨w.heap.size,7,none⟩ (.slice s4 kl4.length m4)).setCell ⟨w.heap.size,8,none⟩ (.int .i64 kmn))) (.slice s4 kl4.length m4) kl4):=⟨L8.out.1.nine (.int .i64 kid) (.int .i64 kld) (.int .i64 kep) (.int .i64 kvr) (.slice s1 kl1.length m1) (.slice s2 kl2.length m2) (.slice s3 kl3.length m3) (.slice s4 kl4.length m4) (.int .i64 kmn),L8.out.2.1.nine (.int .i64 kid) (.int .i64 kld) (.int .i64 kep) (.int .i64 kvr) (.slice s1 kl1.length m1) (.slice s2 kl2.length m2) (.slice s3 kl3.length m3) (.slice s4 kl4.length m4) (.int .i64 kmn),L8.out.2.2.1.nine (.int .i64 kid) (.int .i64 kld) (.int .i64 kep) (.int .i64 kvr) (.slice s1 kl1.length m1) (.slice s2 kl2.length m2) (.slice s3 kl3.length m3) (.slice s4 kl4.length m4) (.int .i64 kmn),L8.out.2.2.2.nine (.int .i64 kid) (.int .i64 kld) (.int .i64 kep) (.int .i64 kvr) (.slice s1 kl1.length m1) (.slice s2 kl2.length m2) (.slice s3 kl3.length m3) (.slice s4 kl4.length m4) (.int .i64 kmn)⟩
    clear k0 k1 k2 k3 k4 k5 k6 k7 k8 z0 z1 z2 z3 z4 z5 z6 z7 z8 fx fz L8 HT8
    generalize (((((((((W8.setCell ⟨w.heap.size,0,none⟩ (.int .i64 kid)).setCell ⟨w.heap.size,1,none⟩ (.int .i64 kld)).setCell ⟨w.heap.size,2,none⟩ (.int .i64 kep)).setCell ⟨w.heap.size,3,none⟩ (.int .i64 kvr)).setCell ⟨w.heap.size,4,none⟩ (.slice s1 kl1.length m1)).setCell ⟨w.heap.size,5,none⟩ (.slice s2 kl2.length m2)).setCell ⟨w.heap.size,6,none⟩ (.slice s3 kl3.length m3)).setCell ⟨w.heap.size,7,none⟩ (.slice s4 kl4.length m4)).setCell ⟨w.heap.size,8,none⟩ (.int .i64 kmn))=W9 at *
    refine hK.out _ _ (fun h=>absurd rfl h) (ButLast.done (by kernel_rfl) ?_)
    clear hK
    go_wp2_with fail
    go_meet
    case rel=>exact ⟨s1,m1,s2,m2,s3,m3,s4,m4,HT9,L9,HI8⟩
   case rest =>
    obtain ⟨s1,m1,s2,m2,s3,m3,s4,m4,HT7,L7,HI7⟩:=hcut
    generalize wc=W7 at *
    clear k0 k1 k2 k3 k4 k5 k6 k7 k8 z0 z1 z2 z3 z4 z5 z6 z7 z8 fx fz
    obtain ⟨k0,k1,k2,k3,k4,k5,k6,k7,k8⟩:=cells9 HT7.out.x
    obtain ⟨z0,z1,z2,z3,z4,z5,z6,z7,z8⟩:=cells9 HT7.out.z
    have fx:=frz_blk HT7.out.x
    have fz:=frz_blk HT7.out.z
    have GC:=hid (rchanged_any (X:=fun b=>w.heap.size+2≤b) (w:=W7) (v:=.agg (PL kid kld kep kvr s1 kl1 m1 s2 kl2 m2 s3 kl3 m3 s4 kl4 m4 kmn)) (p:=⟨kid,kld,kep,kvr,kl1,kl2,kl3,kl4,kmn⟩) ⟨_,_,_,_,rfl,L7.out.1.1,L7.out.2.1.1,L7.out.2.2.1.1,L7.out.2.2.2.1,HI7.out⟩ (inP_of L7.out.1.2 L7.out.2.1.2 L7.out.2.2.1.2 L7.out.2.2.2.2) HKV2.out)
    generalize verP ⟨kid,kld,kep,kvr,kl1,kl2,kl3,kl4,kmn⟩=r2 at *
    obtain ⟨⟨rid,rld,rep,rvr,rl1,rl2,rl3,rl4,rmn⟩,re⟩:=r2
    go_wp2_with fail
    refine GC.out.mono ?_
    rintro e W8 ⟨v',rfl,h1,h2,hb⟩
    obtain ⟨g1,j1,g2,j2,g3,j3,g4,j4,rfl,q1,q2,q3,q4,ii⟩:=h1.open
    obtain ⟨n1,n2,n3,n4⟩:=h2 _ _ _ _ _ _ _ _ _ rfl
    simp only at q1 q2 q3 q4 n1 n2 n3 n4 ii
    have HT8:=hid (HT7.out.next hb)
    have HL:Hid (IA w W8 (.slice g1 rl1.length j1) rl1∧IA w W8 (.slice g2 rl2.length j2) rl2∧IA w W8 (.slice g3 rl3.length j3) rl3∧IA w W8 (.slice g4 rl4.length j4) rl4):=⟨⟨q1,n1.mono fun b hx=>.inr hx⟩,⟨q2,n2.mono fun b hx=>.inr hx⟩,⟨q3,n3.mono fun b hx=>.inr hx⟩,⟨q4,n4.mono fun b hx=>.inr hx⟩⟩
    have HN:Hid (InP (fun b=>w.heap.size≤b) (.agg (PL rid rld rep rvr g1 rl1 j1 g2 rl2 j2 g3 rl3 j3 g4 rl4 j4 rmn)) ⟨rid,rld,rep,rvr,rl1,rl2,rl3,rl4,rmn⟩):=h2.mono fun b hx=>by omega
    have HI2:=hid ii
    clear q1 q2 q3 q4 n1 n2 n3 n4 ii h1 h2 hb k0 k1 k2 k3 k4 k5 k6 k7 k8 z0 z1 z2 z3 z4 z5 z6 z7 z8 fx fz
    obtain ⟨k0,k1,k2,k3,k4,k5,k6,k7,k8⟩:=cells9 HT8.out.x
    obtain ⟨z0,z1,z2,z3,z4,z5,z6,z7,z8⟩:=cells9 HT8.out.z
    have fx:=frz_blk HT8.out.x
    have fz:=frz_blk HT8.out.z
    go_wp2_with fail
    exact leaf9 HT8.out rfl Tryz.results124 (n:=.int .i64 re) rfl rfl rfl fun W9 HT9 hsz9 HOFF=>(by rw [HR.out];exact ⟨_,rfl,⟨_,_,_,_,rfl,HL.out.1.offz HOFF.out hsz9,HL.out.2.1.offz HOFF.out hsz9,HL.out.2.2.1.offz HOFF.out hsz9,HL.out.2.2.2.offz HOFF.out hsz9,HI2.out⟩,HN.out,HT9.out.b⟩)
 ·have c1:(ld != b)=true:=by simp [h1]
  have c2:(ld == b)=false:=by simp [h1]
  have HE3:Hid (r=if R.length=isr.length∨R.length=0 then (⟨id,ld,ep,vr,isr,reps,add,rem,mn⟩,0) else verP ⟨id,ld,ep,vr,T,reps,add,rem,mn⟩):=by
   show _=_
   rw [HE2.out]
   by_cases e:R.length=isr.length∨R.length=0
   ·rw [if_pos ⟨h1,e⟩,if_pos e]
   ·rw [if_neg (fun h=>e h.2),if_neg e,if_neg h1]
  clear h1 HE2
  by_cases h2:R.length=isr.length
  ·have c4:((R.length:Int) == (isr.length:Int))=true:=beq_iff_eq.2 (by omega)
   have HR:Hid (r=(⟨id,ld,ep,vr,isr,reps,add,rem,mn⟩,0)):=by show _=_;rw [HE3.out,if_pos (.inl h2)]
   clear h2
   go_wp2_with fail
   exact leaf9 HT5.out rfl Tryz.results124 (n:=.int .i64 0) rfl rfl rfl fun W9 HT9 hsz9 HOFF=>(by rw [HR.out];exact ⟨_,rfl,⟨_,_,_,_,rfl,L5.out.1.ia.offz HOFF.out hsz9,L5.out.2.1.ia.offz HOFF.out hsz9,L5.out.2.2.1.ia.offz HOFF.out hsz9,L5.out.2.2.2.ia.offz HOFF.out hsz9,HI.out⟩,(inP_of (L5.out.1.2.mono fun b hb=>by omega) (L5.out.2.1.2.mono fun b hb=>by omega) (L5.out.2.2.1.2.mono fun b hb=>by omega) (L5.out.2.2.2.2.mono fun b hb=>by omega)),HT9.out.b⟩)
  ·have c4:((R.length:Int) == (isr.length:Int))=false:=beq_eq_false_iff_ne.2 (by omega)
   by_cases h0:R.length=0
   ·have c3:((R.length:Int) == 0)=true:=beq_iff_eq.2 (by omega)
    have HR:Hid (r=(⟨id,ld,ep,vr,isr,reps,add,rem,mn⟩,0)):=by show _=_;rw [HE3.out,if_pos (.inr h0)]
    clear h0 h2
    go_wp2_with fail
    exact leaf9 HT5.out rfl Tryz.results124 (n:=.int .i64 0) rfl rfl rfl fun W9 HT9 hsz9 HOFF=>(by rw [HR.out];exact ⟨_,rfl,⟨_,_,_,_,rfl,L5.out.1.ia.offz HOFF.out hsz9,L5.out.2.1.ia.offz HOFF.out hsz9,L5.out.2.2.1.ia.offz HOFF.out hsz9,L5.out.2.2.2.ia.offz HOFF.out hsz9,HI.out⟩,(inP_of (L5.out.1.2.mono fun b hb=>by omega) (L5.out.2.1.2.mono fun b hb=>by omega) (L5.out.2.2.1.2.mono fun b hb=>by omega) (L5.out.2.2.2.2.mono fun b hb=>by omega)),HT9.out.b⟩)
   ·have c3:((R.length:Int) == 0)=false:=beq_eq_false_iff_ne.2 (by omega)
    have HR:Hid (r=verP ⟨id,ld,ep,vr,T,reps,add,rem,mn⟩):=by show _=_;rw [HE3.out,if_neg (fun e=>e.elim h2 h0)]
    have HT':Hid (R=T):=by show _=_;rw [← HF2.out,if_neg h0]
    clear h0 h2
    go_upto_region 12 with fail
    have HT6:Hid (TwoB w (W5.setCell ⟨w.heap.size,4,none⟩ (.slice ra R.length rc)) (PL id ld ep vr ra R rc x2 reps y2 x3 add y3 x4 rem y4 mn) PZ):=HT5.out.setx 4 (.slice ra R.length rc)
    have L6:Hid (NW w (W5.setCell ⟨w.heap.size,4,none⟩ (.slice ra R.length rc)) (.slice ra R.length rc) R∧NW w (W5.setCell ⟨w.heap.size,4,none⟩ (.slice ra R.length rc)) (.slice x2 reps.length y2) reps∧NW w (W5.setCell ⟨w.heap.size,4,none⟩ (.slice ra R.length rc)) (.slice x3 add.length y3) add∧NW w (W5.setCell ⟨w.heap.size,4,none⟩ (.slice ra R.length rc)) (.slice x4 rem.length y4) rem):=⟨(LR.out).set 4 (.slice ra R.length rc),L5.out.2.1.set 4 (.slice ra R.length rc),L5.out.2.2.1.set 4 (.slice ra R.length rc),L5.out.2.2.2.set 4 (.slice ra R.length rc)⟩
    clear HT5 L5 k0 k1 k2 k3 k4 k5 k6 k7 k8 z0 z1 z2 z3 z4 z5 z6 z7 z8 fx fz
    have HO6:=hid (HO5.out.set 4 (.slice ra R.length rc))
    generalize W5.setCell ⟨w.heap.size,4,none⟩ (.slice ra R.length rc)=W6 at *
    obtain ⟨k0,k1,k2,k3,k4,k5,k6,k7,k8⟩:=cells9 HT6.out.x
    obtain ⟨z0,z1,z2,z3,z4,z5,z6,z7,z8⟩:=cells9 HT6.out.z
    have fx:=frz_blk HT6.out.x
    have fz:=frz_blk HT6.out.z
    have hT:=HT'.out
    subst hT
    have GC:=hid (rchanged_any (X:=fun b=>w.heap.size+2≤b) (w:=W6) (v:=.agg (PL id ld ep vr ra R rc x2 reps y2 x3 add y3 x4 rem y4 mn)) (p:=⟨id,ld,ep,vr,R,reps,add,rem,mn⟩) ⟨_,_,_,_,rfl,L6.out.1.1,L6.out.2.1.1,L6.out.2.2.1.1,L6.out.2.2.2.1,HI.out⟩ (inP_of L6.out.1.2 L6.out.2.1.2 L6.out.2.2.1.2 L6.out.2.2.2.2) hvr)
    generalize verP ⟨id,ld,ep,vr,R,reps,add,rem,mn⟩=r2 at *
    obtain ⟨⟨rid,rld,rep,rvr,rl1,rl2,rl3,rl4,rmn⟩,re⟩:=r2
    go_wp2_with fail
    refine GC.out.mono ?_
    rintro e W8 ⟨v',rfl,h1,h2,hb⟩
    obtain ⟨g1,j1,g2,j2,g3,j3,g4,j4,rfl,q1,q2,q3,q4,ii⟩:=h1.open
    obtain ⟨n1,n2,n3,n4⟩:=h2 _ _ _ _ _ _ _ _ _ rfl
    simp only at q1 q2 q3 q4 n1 n2 n3 n4 ii
    have HT8:=hid (HT6.out.next hb)
    have HL:Hid (IA w W8 (.slice g1 rl1.length j1) rl1∧IA w W8 (.slice g2 rl2.length j2) rl2∧IA w W8 (.slice g3 rl3.length j3) rl3∧IA w W8 (.slice g4 rl4.length j4) rl4):=⟨⟨q1,n1.mono fun b hx=>.inr hx⟩,⟨q2,n2.mono fun b hx=>.inr hx⟩,⟨q3,n3.mono fun b hx=>.inr hx⟩,⟨q4,n4.mono fun b hx=>.inr hx⟩⟩
    have HN:Hid (InP (fun b=>w.heap.size≤b) (.agg (PL rid rld rep rvr g1 rl1 j1 g2 rl2 j2 g3 rl3 j3 g4 rl4 j4 rmn)) ⟨rid,rld,rep,rvr,rl1,rl2,rl3,rl4,rmn⟩):=h2.mono fun b hx=>by omega
    have HI2:=hid ii
    clear q1 q2 q3 q4 n1 n2 n3 n4 ii h1 h2 hb k0 k1 k2 k3 k4 k5 k6 k7 k8 z0 z1 z2 z3 z4 z5 z6 z7 z8 fx fz
    obtain ⟨k0,k1,k2,k3,k4,k5,k6,k7,k8⟩:=cells9 HT8.out.x
    obtain ⟨z0,z1,z2,z3,z4,z5,z6,z7,z8⟩:=cells9 HT8.out.z
    have fx:=frz_blk HT8.out.x
    have fz:=frz_blk HT8.out.z
    go_wp2_with fail
    exact leaf9 HT8.out rfl Tryz.results124 (n:=.int .i64 re) rfl rfl rfl fun W9 HT9 hsz9 HOFF=>(by rw [HR.out];exact ⟨_,rfl,⟨_,_,_,_,rfl,HL.out.1.offz HOFF.out hsz9,HL.out.2.1.offz HOFF.out hsz9,HL.out.2.2.1.offz HOFF.out hsz9,HL.out.2.2.2.offz HOFF.out hsz9,HI2.out⟩,HN.out,HT9.out.b⟩)
end Go.Proofs.YtcffomhcmilcpaaGreat
