/-
  No cell of these rows narrows 'for every input' (looked for: loops, veiled, ifaces, maps, wideKeys, modest, calm, conditions, laid).
  DERIVED. THE GIVEN ROWS OF THIS SEAT. 6 by the template 'for every input the law returns true; each argument reads behind the call as it read before'; 0 by the template 'total and deterministic' (their statements: YtcffomhcmilcpaaGreatTotals.lean).
  GIVEN WITH THE SEED: the statements are not yours to turn. If you find one false, say at which input.
  Laid BY PROGRAM, IN A SANDBOX (cutbox-rows.mjs): the forced cells as the released guide's own fill.sh prints them over the translation 790878f4dd33ff4a… (all of the seat's roots in one cut). By AI agents, Wed Nov 11 2026. No macro, syntax, notation, axiom, sorry.
-/
import Derived.Test.YtcffomhcmilcpaaGreatChecked
import GoSem.Claim
import GoSem.ClaimJoined
import GoSem.ClaimMapViews
import Derived.JoinedTies
import Derived.KernelRfl
namespace Go.Proofs.YtcffomhcmilcpaaGreat
/- THE CELL 'sum', in the pinned program and in every row, IS THE sha256 OF THE DUMP (.gsa) THAT YtcffomhcmilcpaaGreatProg.lean LOADS. Nothing in Lean hashes anything: it is a label: what it is worth is what the hold of that sum in a sandbox is worth. -/
noncomputable def Tryz.pinned : Pinned := { name := "ytcffomhcmilcpaagreat", sum := "790878f4dd33ff4a347c2598fd1fb0c243b5884674a016c60603711594f12786", checked := Tryz.checked }
namespace Rows
def none {H : Type} : Left H := { results := [], args := [] }

/-- 'logboomlaw12.MetaPlays': WHATEVER THE INPUT: true; the input reads as it did. -/
def metaPlaysSpec : ChangeSpec := { name := "metaPlays", fn := fun _ => fun
  | [d1, d2, d3] => { results := [.lit (.bool true)], args := [d1, d2, d3] }
  | _ => none }
def metaPlaysRow : OpenClaim := { program := "ytcffomhcmilcpaagreat", sum := "790878f4dd33ff4a347c2598fd1fb0c243b5884674a016c60603711594f12786", func := "logboom/logboomlaw12.MetaPlays", spec := "metaPlays", inPlace := ["maps.clone"], unfollowed := true, recurses := true, apart := false }
def MetaPlaysSaid : Prop := metaPlaysRow.holds Tryz.pinned (OpenSpec.ofChange metaPlaysSpec)

/-- ITS FALSE NEIGHBOUR: 'it returns false'. Refute it at one input. -/
def metaPlaysWrong : ChangeSpec := { name := "metaPlays", fn := fun _ => fun
  | [d1, d2, d3] => { results := [.lit (.bool false)], args := [d1, d2, d3] }
  | _ => none }
def MetaPlaysWrongFalsely : Prop := metaPlaysRow.holds Tryz.pinned (OpenSpec.ofChange metaPlaysWrong)

/-- 'logboomlaw12.MetaLoads': WHATEVER THE INPUT: true; the input reads as it did. -/
def metaLoadsSpec : ChangeSpec := { name := "metaLoads", fn := fun _ => fun
  | [d1, d2, d3, d4] => { results := [.lit (.bool true)], args := [d1, d2, d3, d4] }
  | _ => none }
def metaLoadsRow : OpenClaim := { program := "ytcffomhcmilcpaagreat", sum := "790878f4dd33ff4a347c2598fd1fb0c243b5884674a016c60603711594f12786", func := "logboom/logboomlaw12.MetaLoads", spec := "metaLoads", unfollowed := true, recurses := true, apart := false }
def MetaLoadsSaid : Prop := metaLoadsRow.holds Tryz.pinned (OpenSpec.ofChange metaLoadsSpec)

/-- ITS FALSE NEIGHBOUR: 'it returns false'. Refute it at one input. -/
def metaLoadsWrong : ChangeSpec := { name := "metaLoads", fn := fun _ => fun
  | [d1, d2, d3, d4] => { results := [.lit (.bool false)], args := [d1, d2, d3, d4] }
  | _ => none }
def MetaLoadsWrongFalsely : Prop := metaLoadsRow.holds Tryz.pinned (OpenSpec.ofChange metaLoadsWrong)

/-- 'logboomlaw12.MetaRules': WHATEVER THE INPUT: true; the input reads as it did. -/
def metaRulesSpec : ChangeSpec := { name := "metaRules", fn := fun _ => fun
  | [d] => { results := [.lit (.bool true)], args := [d] }
  | _ => none }
def metaRulesRow : OpenClaim := { program := "ytcffomhcmilcpaagreat", sum := "790878f4dd33ff4a347c2598fd1fb0c243b5884674a016c60603711594f12786", func := "logboom/logboomlaw12.MetaRules", spec := "metaRules", unfollowed := true, recurses := true, apart := false }
def MetaRulesSaid : Prop := metaRulesRow.holds Tryz.pinned (OpenSpec.ofChange metaRulesSpec)

/-- ITS FALSE NEIGHBOUR: 'it returns false'. Refute it at one input. -/
def metaRulesWrong : ChangeSpec := { name := "metaRules", fn := fun _ => fun
  | [d] => { results := [.lit (.bool false)], args := [d] }
  | _ => none }
def MetaRulesWrongFalsely : Prop := metaRulesRow.holds Tryz.pinned (OpenSpec.ofChange metaRulesWrong)

/-- 'logboomlaw12.MetaBack': WHATEVER THE INPUT: true; the input reads as it did. -/
def metaBackSpec : ChangeSpec := { name := "metaBack", fn := fun _ => fun
  | [d1, d2] => { results := [.lit (.bool true)], args := [d1, d2] }
  | _ => none }
def metaBackRow : OpenClaim := { program := "ytcffomhcmilcpaagreat", sum := "790878f4dd33ff4a347c2598fd1fb0c243b5884674a016c60603711594f12786", func := "logboom/logboomlaw12.MetaBack", spec := "metaBack", unfollowed := true, recurses := true, apart := false }
def MetaBackSaid : Prop := metaBackRow.holds Tryz.pinned (OpenSpec.ofChange metaBackSpec)

/-- ITS FALSE NEIGHBOUR: 'it returns false'. Refute it at one input. -/
def metaBackWrong : ChangeSpec := { name := "metaBack", fn := fun _ => fun
  | [d1, d2] => { results := [.lit (.bool false)], args := [d1, d2] }
  | _ => none }
def MetaBackWrongFalsely : Prop := metaBackRow.holds Tryz.pinned (OpenSpec.ofChange metaBackWrong)

/-- 'logboomlaw12.MetaPids': WHATEVER THE INPUT: true; the input reads as it did. -/
def metaPidsSpec : ChangeSpec := { name := "metaPids", fn := fun _ => fun
  | [d] => { results := [.lit (.bool true)], args := [d] }
  | _ => none }
def metaPidsRow : OpenClaim := { program := "ytcffomhcmilcpaagreat", sum := "790878f4dd33ff4a347c2598fd1fb0c243b5884674a016c60603711594f12786", func := "logboom/logboomlaw12.MetaPids", spec := "metaPids", unfollowed := true, recurses := true, apart := false }
def MetaPidsSaid : Prop := metaPidsRow.holds Tryz.pinned (OpenSpec.ofChange metaPidsSpec)

/-- ITS FALSE NEIGHBOUR: 'it returns false'. Refute it at one input. -/
def metaPidsWrong : ChangeSpec := { name := "metaPids", fn := fun _ => fun
  | [d] => { results := [.lit (.bool false)], args := [d] }
  | _ => none }
def MetaPidsWrongFalsely : Prop := metaPidsRow.holds Tryz.pinned (OpenSpec.ofChange metaPidsWrong)

/-- 'logboomlaw12.MetaTopics': WHATEVER THE INPUT: true; the input reads as it did. -/
def metaTopicsSpec : ChangeSpec := { name := "metaTopics", fn := fun _ => fun
  | [d1, d2] => { results := [.lit (.bool true)], args := [d1, d2] }
  | _ => none }
def metaTopicsRow : OpenClaim := { program := "ytcffomhcmilcpaagreat", sum := "790878f4dd33ff4a347c2598fd1fb0c243b5884674a016c60603711594f12786", func := "logboom/logboomlaw12.MetaTopics", spec := "metaTopics", unfollowed := true, recurses := true, apart := false }
def MetaTopicsSaid : Prop := metaTopicsRow.holds Tryz.pinned (OpenSpec.ofChange metaTopicsSpec)

/-- ITS FALSE NEIGHBOUR: 'it returns false'. Refute it at one input. -/
def metaTopicsWrong : ChangeSpec := { name := "metaTopics", fn := fun _ => fun
  | [d1, d2] => { results := [.lit (.bool false)], args := [d1, d2] }
  | _ => none }
def MetaTopicsWrongFalsely : Prop := metaTopicsRow.holds Tryz.pinned (OpenSpec.ofChange metaTopicsWrong)

/- THE SECOND FORM. 'bulk': how many values and letters a reading holds, each counted each time it is reached (what is shared counts as often as it is met; a slice's spare places count too). A statement '..UptoSaid' is the law's where the arguments, and the package variables that the reading takes, are together of bulk at most 1048576: NARROWER than '..Said'. Prove '..Said' where nothing that the law and all that it calls make is longer than what came in: it says more and counts as full. Else prove '..UptoSaid'. A law counts once. -/
mutual
def uptoBulk {H : Type} : DataW H → Nat
  | .lit (.string bytes) => bytes.length + 1
  | .lit _ => 1
  | .nil => 1
  | .ptr d => uptoBulk d + 1
  | .slice elems spare => uptoBulkAll elems + uptoBulkAll spare + 1
  | .agg parts => uptoBulkAll parts + 1
  | .iface _ d => uptoBulk d + 1
  | .map entries => uptoBulkEntries entries + 1
  | .held _ => 1
def uptoBulkAll {H : Type} : List (DataW H) → Nat
  | [] => 0
  | d :: r => uptoBulk d + uptoBulkAll r
def uptoBulkEntries {H : Type} : List (Lit × DataW H) → Nat
  | [] => 0
  | x :: r => uptoBulkEntry x + uptoBulkEntries r
def uptoBulkEntry {H : Type} : Lit × DataW H → Nat
  | (.string bytes, d) => bytes.length + uptoBulk d + 1
  | (_, d) => uptoBulk d + 1
 end
def uptoSmall : (H : Type) → List (DataW H) → Bool := fun _ ds => decide (uptoBulkAll ds ≤ 1048576)
def OpenSpec.upto (s : _root_.Go.ChangeSpec) : _root_.Go.OpenSpec := { _root_.Go.OpenSpec.ofChange s with cond := some uptoSmall }

/-- 'logboomlaw12.MetaPlays', WHERE WHAT IT READS IS OF BULK AT MOST 1048576: true; the input reads as it did. -/
def metaPlaysUptoRow : OpenClaim := { program := "ytcffomhcmilcpaagreat", sum := "790878f4dd33ff4a347c2598fd1fb0c243b5884674a016c60603711594f12786", func := "logboom/logboomlaw12.MetaPlays", spec := "metaPlays", inPlace := ["maps.clone"], unfollowed := true, recurses := true, apart := false, narrowed := true }
def MetaPlaysUptoSaid : Prop := metaPlaysUptoRow.holds Tryz.pinned (OpenSpec.upto metaPlaysSpec)

/-- 'logboomlaw12.MetaLoads', WHERE WHAT IT READS IS OF BULK AT MOST 1048576: true; the input reads as it did. -/
def metaLoadsUptoRow : OpenClaim := { program := "ytcffomhcmilcpaagreat", sum := "790878f4dd33ff4a347c2598fd1fb0c243b5884674a016c60603711594f12786", func := "logboom/logboomlaw12.MetaLoads", spec := "metaLoads", unfollowed := true, recurses := true, apart := false, narrowed := true }
def MetaLoadsUptoSaid : Prop := metaLoadsUptoRow.holds Tryz.pinned (OpenSpec.upto metaLoadsSpec)

/-- 'logboomlaw12.MetaRules', WHERE WHAT IT READS IS OF BULK AT MOST 1048576: true; the input reads as it did. -/
def metaRulesUptoRow : OpenClaim := { program := "ytcffomhcmilcpaagreat", sum := "790878f4dd33ff4a347c2598fd1fb0c243b5884674a016c60603711594f12786", func := "logboom/logboomlaw12.MetaRules", spec := "metaRules", unfollowed := true, recurses := true, apart := false, narrowed := true }
def MetaRulesUptoSaid : Prop := metaRulesUptoRow.holds Tryz.pinned (OpenSpec.upto metaRulesSpec)

/-- 'logboomlaw12.MetaBack', WHERE WHAT IT READS IS OF BULK AT MOST 1048576: true; the input reads as it did. -/
def metaBackUptoRow : OpenClaim := { program := "ytcffomhcmilcpaagreat", sum := "790878f4dd33ff4a347c2598fd1fb0c243b5884674a016c60603711594f12786", func := "logboom/logboomlaw12.MetaBack", spec := "metaBack", unfollowed := true, recurses := true, apart := false, narrowed := true }
def MetaBackUptoSaid : Prop := metaBackUptoRow.holds Tryz.pinned (OpenSpec.upto metaBackSpec)

/-- 'logboomlaw12.MetaPids', WHERE WHAT IT READS IS OF BULK AT MOST 1048576: true; the input reads as it did. -/
def metaPidsUptoRow : OpenClaim := { program := "ytcffomhcmilcpaagreat", sum := "790878f4dd33ff4a347c2598fd1fb0c243b5884674a016c60603711594f12786", func := "logboom/logboomlaw12.MetaPids", spec := "metaPids", unfollowed := true, recurses := true, apart := false, narrowed := true }
def MetaPidsUptoSaid : Prop := metaPidsUptoRow.holds Tryz.pinned (OpenSpec.upto metaPidsSpec)

/-- 'logboomlaw12.MetaTopics', WHERE WHAT IT READS IS OF BULK AT MOST 1048576: true; the input reads as it did. -/
def metaTopicsUptoRow : OpenClaim := { program := "ytcffomhcmilcpaagreat", sum := "790878f4dd33ff4a347c2598fd1fb0c243b5884674a016c60603711594f12786", func := "logboom/logboomlaw12.MetaTopics", spec := "metaTopics", unfollowed := true, recurses := true, apart := false, narrowed := true }
def MetaTopicsUptoSaid : Prop := metaTopicsUptoRow.holds Tryz.pinned (OpenSpec.upto metaTopicsSpec)

end Rows
end Go.Proofs.YtcffomhcmilcpaaGreat
