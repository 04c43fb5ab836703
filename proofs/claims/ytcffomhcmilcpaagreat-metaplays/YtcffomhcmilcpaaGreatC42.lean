/- The document: a tick of the image;Register and the turns of partitions,all cases. -/
import Derived.Test.YtcffomhcmilcpaaGreatC35
import Derived.Test.YtcffomhcmilcpaaGreatC40
import Derived.Test.YtcffomhcmilcpaaGreatC41
set_option maxRecDepth 100000
set_option maxHeartbeats 20000000
set_option linter.unusedVariables false
set_option linter.unusedSimpArgs false
namespace Go.Proofs.YtcffomhcmilcpaaGreat
open Go.RowKit Go.Maps
theorem DC.tick {w:World} {L:Nat→Prop} {q:Nat} {vb vt vp ve:Value} {ps:List (Value × Pt)} {I:Im} (h:DC w L q vb vt vp ve ps I) (ha:I.applied<1000000000000):DC (w.setCell ⟨q,0,none⟩ (.int .i64 (I.applied+1))) L q vb vt vp ve ps (nextI I):=by
 have hk:∀ k,k≠q→(w.setCell ⟨q,0,none⟩ (.int .i64 (I.applied+1))).heap[k]?=w.heap[k]?:=fun k hk=>Below.heap_setCell _ _ _ _ hk
 refine ⟨set_box h.cells,row_kept h.brs (fun k e=>hk k (fun e2=>h.ne_q.1 (by rw [← e2];exact e))),row_kept h.tops (fun k e=>hk k (fun e2=>h.ne_q.2.1 (by rw [← e2];exact e))),row_kept h.parts (fun k e=>hk k (fun e2=>h.ne_q.2.2.1 (by rw [← e2];exact e))),row_kept h.eps (fun k e=>hk k (fun e2=>h.ne_q.2.2.2 (by rw [← e2];exact e))),fun x hx=>?_,h.abs,fun k hk2=>by simpa using h.lists k hk2,⟨h.ok.keys,h.ok.brs,h.ok.parts,h.ok.few,h.ok.tops,h.ok.name,h.ok.nums,h.ok.eps,h.ok.epv,?_⟩⟩
 ·obtain ⟨h1,h2⟩:=h.each x hx
  exact ⟨h1.kept h2 (fun k hk2=>hk k (fun e=>(h.lists k hk2).2 (.inl e))) (by simp),h2⟩
 ·have:=h.ok.app
  unfold nextI
  simp only
  omega
theorem rregister_any {w:World} {Z:Nat→Prop} {q:Nat} {I:Im} (hi:DImg w Z q I) (r:Rc) (ha:I64 r.a) (hb:I64 r.b):Calls Tryz.prog 33 #[.pointer (some ⟨q,0,none⟩),.int .i64 r.a,.int .i64 r.b] w fun e w'=>e=.returned (.int .i64 (registerI I r).2.2)∧DAfter Z w w' q (registerI I r).1:=by
 by_cases hk:1≤r.a→r.a≤7→1≤r.b→r.b≤1000000000→getB I.brs r.a≠none
 ·exact rregister_known hi r ha hb hk
 ·have h1:1≤r.a∧r.a≤7∧1≤r.b∧r.b≤1000000000∧getB I.brs r.a=none:=by
   refine ⟨?_,?_,?_,?_,?_⟩
   ·by_cases h:1≤r.a
    ·exact h
    ·exact absurd (fun h'=>absurd h' h) hk
   ·by_cases h:r.a≤7
    ·exact h
    ·exact absurd (fun _ h'=>absurd h' h) hk
   ·by_cases h:1≤r.b
    ·exact h
    ·exact absurd (fun _ _ h'=>absurd h' h) hk
   ·by_cases h:r.b≤1000000000
    ·exact h
    ·exact absurd (fun _ _ _ h'=>absurd h' h) hk
   ·cases h:getB I.brs r.a with
    | none=>rfl
    | some b=>exact absurd (fun _ _ _ _=>by rw [h];simp) hk
  obtain ⟨k1,k2,k3,k4,k5⟩:=h1
  by_cases hl:∃ p∈I.brs,r.a<p.1
  ·exact rregister_mid hi r k1 k2 k3 k4 k5 hl
  ·refine rregister_last hi r k1 k2 k3 k4 k5 (fun p hp=>?_)
   have h2:¬ r.a<p.1:=fun h=>hl ⟨p,hp,h⟩
   have h3:p.1≠r.a:=fun h=>by
    unfold getB at k5
    simp only [Option.map_eq_none_iff,List.find?_eq_none] at k5
    have:=k5 p hp
    simp [h] at this
   omega
theorem rturn_all {w:World} {Z:Nat→Prop} {q:Nat} {I:Im} (hi:DImg w Z q I) {v:Value} {r:Rc} (hr:RecM w v r) (hk:r.kind=5∨r.kind=6∨r.kind=7∨r.kind=10∨r.kind=9):Calls Tryz.prog 36 #[.pointer (some ⟨q,0,none⟩),v] w fun e w'=>e=.returned (.tuple #[.int .i64 (turnI I r).2.1,.int .i64 (turnI I r).2.2])∧DAfter Z w w' q (turnI I r).1:=by
 by_cases h9:r.kind=9
 ·exact rturn_9 hi hr h9
 ·exact rturn_four hi hr (by omega)
theorem register_told (I:Im) (r:Rc):(registerI I r).2.1=if (registerI I r).2.2=0 then r.a else 0:=by
 unfold registerI
 split
 ·rfl
 ·split
  ·rfl
  ·rfl
theorem DAfter.from {Z:Nat→Prop} {w W w':World} {q:Nat} {I:Im} (h:DAfter Z W w' q I) (hk:Keeps Z w W):DAfter Z w w' q I:=by
 obtain ⟨Z',h1,h2,h3⟩:=h
 have hs:=hk.size
 exact ⟨Z',h1,fun k hz=>(h2 k hz).imp id (fun h=>by omega),hk.trans h3 (fun k h=>.inl h)⟩
end Go.Proofs.YtcffomhcmilcpaaGreat
