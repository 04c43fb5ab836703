/-
  No cell of these rows narrows 'for every input' (looked for: loops, veiled, ifaces, maps, wideKeys, modest, calm, conditions, laid).
  DERIVED. THE GIVEN ROWS OF THIS SEAT. 5 by the template 'for every input the law returns true; each argument reads behind the call as it read before'; 0 by the template 'total and deterministic' (their statements: YtlgaianlkbaedaaTotals.lean).
  GIVEN WITH THE SEED: the statements are not yours to turn. If you find one false, say at which input.
  Laid BY PROGRAM, IN A SANDBOX (cutbox-rows.mjs): the forced cells as the released guide's own fill.sh prints them over the translation 9a6aa2ac454a8d7f… (all of the seat's roots in one cut). By AI agents, Wed Nov 11 2026. No macro, syntax, notation, axiom, sorry.
-/
import Derived.Test.YtlgaianlkbaedaaChecked
import GoSem.Claim
import GoSem.ClaimJoined
import GoSem.ClaimMapViews
import Derived.JoinedTies
import Derived.KernelRfl
namespace Go.Proofs.Ytlgaianlkbaedaa
/- THE CELL 'sum', in the pinned program and in every row, IS THE sha256 OF THE DUMP (.gsa) THAT YtlgaianlkbaedaaProg.lean LOADS. Nothing in Lean hashes anything: it is a label: what it is worth is what the hold of that sum in a sandbox is worth. -/
noncomputable def Try.pinned : Pinned := { name := "ytlgaianlkbaedaa", sum := "9a6aa2ac454a8d7f6fa42d715b0733f791b45e2a6d395805d428b67829bed682", checked := Try.checked }
namespace Rows
def none {H : Type} : Left H := { results := [], args := [] }

/-- 'logboomlaw5.SegmentSurvives': WHATEVER THE INPUT: true; the input reads as it did. -/
def segmentSurvivesSpec : ChangeSpec := { name := "segmentSurvives", fn := fun _ => fun
  | [d1, d2, d3] => { results := [.lit (.bool true)], args := [d1, d2, d3] }
  | _ => none }
def segmentSurvivesRow : OpenClaim := { program := "ytlgaianlkbaedaa", sum := "9a6aa2ac454a8d7f6fa42d715b0733f791b45e2a6d395805d428b67829bed682", func := "logboom/logboomlaw5.SegmentSurvives", spec := "segmentSurvives", unfollowed := true, recurses := true, apart := false }
def SegmentSurvivesSaid : Prop := segmentSurvivesRow.holds Try.pinned (OpenSpec.ofChange segmentSurvivesSpec)

/-- ITS FALSE NEIGHBOUR: 'it returns false'. Refute it at one input. -/
def segmentSurvivesWrong : ChangeSpec := { name := "segmentSurvives", fn := fun _ => fun
  | [d1, d2, d3] => { results := [.lit (.bool false)], args := [d1, d2, d3] }
  | _ => none }
def SegmentSurvivesWrongFalsely : Prop := segmentSurvivesRow.holds Try.pinned (OpenSpec.ofChange segmentSurvivesWrong)

/-- 'logboomlaw5.SegmentFull': WHATEVER THE INPUT: true; the input reads as it did. -/
def segmentFullSpec : ChangeSpec := { name := "segmentFull", fn := fun _ => fun
  | [d1, d2] => { results := [.lit (.bool true)], args := [d1, d2] }
  | _ => none }
def segmentFullRow : OpenClaim := { program := "ytlgaianlkbaedaa", sum := "9a6aa2ac454a8d7f6fa42d715b0733f791b45e2a6d395805d428b67829bed682", func := "logboom/logboomlaw5.SegmentFull", spec := "segmentFull", unfollowed := true, recurses := true, apart := false }
def SegmentFullSaid : Prop := segmentFullRow.holds Try.pinned (OpenSpec.ofChange segmentFullSpec)

/-- ITS FALSE NEIGHBOUR: 'it returns false'. Refute it at one input. -/
def segmentFullWrong : ChangeSpec := { name := "segmentFull", fn := fun _ => fun
  | [d1, d2] => { results := [.lit (.bool false)], args := [d1, d2] }
  | _ => none }
def SegmentFullWrongFalsely : Prop := segmentFullRow.holds Try.pinned (OpenSpec.ofChange segmentFullWrong)

/-- 'logboomlaw5.SegmentReads': WHATEVER THE INPUT: true; the input reads as it did. -/
def segmentReadsSpec : ChangeSpec := { name := "segmentReads", fn := fun _ => fun
  | [d1, d2, d3, d4] => { results := [.lit (.bool true)], args := [d1, d2, d3, d4] }
  | _ => none }
def segmentReadsRow : OpenClaim := { program := "ytlgaianlkbaedaa", sum := "9a6aa2ac454a8d7f6fa42d715b0733f791b45e2a6d395805d428b67829bed682", func := "logboom/logboomlaw5.SegmentReads", spec := "segmentReads", unfollowed := true, recurses := true, apart := false }
def SegmentReadsSaid : Prop := segmentReadsRow.holds Try.pinned (OpenSpec.ofChange segmentReadsSpec)

/-- ITS FALSE NEIGHBOUR: 'it returns false'. Refute it at one input. -/
def segmentReadsWrong : ChangeSpec := { name := "segmentReads", fn := fun _ => fun
  | [d1, d2, d3, d4] => { results := [.lit (.bool false)], args := [d1, d2, d3, d4] }
  | _ => none }
def SegmentReadsWrongFalsely : Prop := segmentReadsRow.holds Try.pinned (OpenSpec.ofChange segmentReadsWrong)

/-- 'logboomlaw5.SegmentCuts': WHATEVER THE INPUT: true; the input reads as it did. -/
def segmentCutsSpec : ChangeSpec := { name := "segmentCuts", fn := fun _ => fun
  | [d1, d2, d3] => { results := [.lit (.bool true)], args := [d1, d2, d3] }
  | _ => none }
def segmentCutsRow : OpenClaim := { program := "ytlgaianlkbaedaa", sum := "9a6aa2ac454a8d7f6fa42d715b0733f791b45e2a6d395805d428b67829bed682", func := "logboom/logboomlaw5.SegmentCuts", spec := "segmentCuts", unfollowed := true, recurses := true, apart := false }
def SegmentCutsSaid : Prop := segmentCutsRow.holds Try.pinned (OpenSpec.ofChange segmentCutsSpec)

/-- ITS FALSE NEIGHBOUR: 'it returns false'. Refute it at one input. -/
def segmentCutsWrong : ChangeSpec := { name := "segmentCuts", fn := fun _ => fun
  | [d1, d2, d3] => { results := [.lit (.bool false)], args := [d1, d2, d3] }
  | _ => none }
def SegmentCutsWrongFalsely : Prop := segmentCutsRow.holds Try.pinned (OpenSpec.ofChange segmentCutsWrong)

/-- 'logboomlaw5.SegmentIndex': WHATEVER THE INPUT: true; the input reads as it did. -/
def segmentIndexSpec : ChangeSpec := { name := "segmentIndex", fn := fun _ => fun
  | [d] => { results := [.lit (.bool true)], args := [d] }
  | _ => none }
def segmentIndexRow : OpenClaim := { program := "ytlgaianlkbaedaa", sum := "9a6aa2ac454a8d7f6fa42d715b0733f791b45e2a6d395805d428b67829bed682", func := "logboom/logboomlaw5.SegmentIndex", spec := "segmentIndex", unfollowed := true, recurses := true, apart := false }
def SegmentIndexSaid : Prop := segmentIndexRow.holds Try.pinned (OpenSpec.ofChange segmentIndexSpec)

/-- ITS FALSE NEIGHBOUR: 'it returns false'. Refute it at one input. -/
def segmentIndexWrong : ChangeSpec := { name := "segmentIndex", fn := fun _ => fun
  | [d] => { results := [.lit (.bool false)], args := [d] }
  | _ => none }
def SegmentIndexWrongFalsely : Prop := segmentIndexRow.holds Try.pinned (OpenSpec.ofChange segmentIndexWrong)

/- THE SECOND FORM. 'bulk': how many values and letters a reading holds, each counted each time it is reached (what is shared counts as often as it is met; a slice's spare places count too). A statement '..UptoSaid' is the law's where the arguments, and the package variables that the reading takes, are together of bulk at most 1048576: NARROWER than '..Said'. Prove '..Said' where nothing that the law and all that it calls make is longer than what came in: it says more and counts as full. Else prove '..UptoSaid'. A law counts once. -/
mutual
def uptoBulk {H : Type} : DataW H → Nat
  | .lit (.string bytes) => bytes.length + 1
  | .lit _ => 1
  | .nil => 1
  | .ptr d => uptoBulk d + 1
  | .slice elems spare => uptoBulkAll elems + uptoBulkAll spare + 1
  | .agg parts => uptoBulkAll parts + 1
  | .iface _ d => uptoBulk d + 1
  | .map entries => uptoBulkEntries entries + 1
  | .held _ => 1
def uptoBulkAll {H : Type} : List (DataW H) → Nat
  | [] => 0
  | d :: r => uptoBulk d + uptoBulkAll r
def uptoBulkEntries {H : Type} : List (Lit × DataW H) → Nat
  | [] => 0
  | x :: r => uptoBulkEntry x + uptoBulkEntries r
def uptoBulkEntry {H : Type} : Lit × DataW H → Nat
  | (.string bytes, d) => bytes.length + uptoBulk d + 1
  | (_, d) => uptoBulk d + 1
 end
def uptoSmall : (H : Type) → List (DataW H) → Bool := fun _ ds => decide (uptoBulkAll ds ≤ 1048576)
def OpenSpec.upto (s : _root_.Go.ChangeSpec) : _root_.Go.OpenSpec := { _root_.Go.OpenSpec.ofChange s with cond := some uptoSmall }

/-- 'logboomlaw5.SegmentSurvives', WHERE WHAT IT READS IS OF BULK AT MOST 1048576: true; the input reads as it did. -/
def segmentSurvivesUptoRow : OpenClaim := { program := "ytlgaianlkbaedaa", sum := "9a6aa2ac454a8d7f6fa42d715b0733f791b45e2a6d395805d428b67829bed682", func := "logboom/logboomlaw5.SegmentSurvives", spec := "segmentSurvives", unfollowed := true, recurses := true, apart := false, narrowed := true }
def SegmentSurvivesUptoSaid : Prop := segmentSurvivesUptoRow.holds Try.pinned (OpenSpec.upto segmentSurvivesSpec)

/-- 'logboomlaw5.SegmentFull', WHERE WHAT IT READS IS OF BULK AT MOST 1048576: true; the input reads as it did. -/
def segmentFullUptoRow : OpenClaim := { program := "ytlgaianlkbaedaa", sum := "9a6aa2ac454a8d7f6fa42d715b0733f791b45e2a6d395805d428b67829bed682", func := "logboom/logboomlaw5.SegmentFull", spec := "segmentFull", unfollowed := true, recurses := true, apart := false, narrowed := true }
def SegmentFullUptoSaid : Prop := segmentFullUptoRow.holds Try.pinned (OpenSpec.upto segmentFullSpec)

/-- 'logboomlaw5.SegmentReads', WHERE WHAT IT READS IS OF BULK AT MOST 1048576: true; the input reads as it did. -/
def segmentReadsUptoRow : OpenClaim := { program := "ytlgaianlkbaedaa", sum := "9a6aa2ac454a8d7f6fa42d715b0733f791b45e2a6d395805d428b67829bed682", func := "logboom/logboomlaw5.SegmentReads", spec := "segmentReads", unfollowed := true, recurses := true, apart := false, narrowed := true }
def SegmentReadsUptoSaid : Prop := segmentReadsUptoRow.holds Try.pinned (OpenSpec.upto segmentReadsSpec)

/-- 'logboomlaw5.SegmentCuts', WHERE WHAT IT READS IS OF BULK AT MOST 1048576: true; the input reads as it did. -/
def segmentCutsUptoRow : OpenClaim := { program := "ytlgaianlkbaedaa", sum := "9a6aa2ac454a8d7f6fa42d715b0733f791b45e2a6d395805d428b67829bed682", func := "logboom/logboomlaw5.SegmentCuts", spec := "segmentCuts", unfollowed := true, recurses := true, apart := false, narrowed := true }
def SegmentCutsUptoSaid : Prop := segmentCutsUptoRow.holds Try.pinned (OpenSpec.upto segmentCutsSpec)

/-- 'logboomlaw5.SegmentIndex', WHERE WHAT IT READS IS OF BULK AT MOST 1048576: true; the input reads as it did. -/
def segmentIndexUptoRow : OpenClaim := { program := "ytlgaianlkbaedaa", sum := "9a6aa2ac454a8d7f6fa42d715b0733f791b45e2a6d395805d428b67829bed682", func := "logboom/logboomlaw5.SegmentIndex", spec := "segmentIndex", unfollowed := true, recurses := true, apart := false, narrowed := true }
def SegmentIndexUptoSaid : Prop := segmentIndexUptoRow.holds Try.pinned (OpenSpec.upto segmentIndexSpec)

end Rows
end Go.Proofs.Ytlgaianlkbaedaa
