/-
  No cell of these rows narrows 'for every input' (looked for: loops, veiled, ifaces, maps, wideKeys, modest, calm, conditions, laid).
  DERIVED. THE GIVEN ROWS OF THIS SEAT. 6 by the template 'for every input the law returns true; each argument reads behind the call as it read before'; 0 by the template 'total and deterministic' (their statements: YtfahepeemodcbaaTotals.lean).
  GIVEN WITH THE SEED: the statements are not yours to turn. If you find one false, say at which input.
  Laid BY PROGRAM, IN A SANDBOX (cutbox-rows.mjs): the forced cells as the released guide's own fill.sh prints them over the translation e7da618fe268e305… (all of the seat's roots in one cut). By AI agents, Wed Nov 11 2026. No macro, syntax, notation, axiom, sorry.
-/
import Derived.Test.YtfahepeemodcbaaChecked
import GoSem.Claim
import GoSem.ClaimJoined
import GoSem.ClaimMapViews
import Derived.JoinedTies
import Derived.KernelRfl
namespace Go.Proofs.Ytfahepeemodcbaa
/- THE CELL 'sum', in the pinned program and in every row, IS THE sha256 OF THE DUMP (.gsa) THAT YtfahepeemodcbaaProg.lean LOADS. Nothing in Lean hashes anything: it is a label: what it is worth is what the hold of that sum in a sandbox is worth. -/
noncomputable def Try.pinned : Pinned := { name := "ytfahepeemodcbaa", sum := "e7da618fe268e3055e1c4c3caf552e7a0b58a7665efc94fea007b644989fe9b2", checked := Try.checked }
namespace Rows
def none {H : Type} : Left H := { results := [], args := [] }

/-- 'logboomlaw11.MoveDoes': WHATEVER THE INPUT: true; the input reads as it did. -/
def moveDoesSpec : ChangeSpec := { name := "moveDoes", fn := fun _ => fun
  | [d1, d2, d3] => { results := [.lit (.bool true)], args := [d1, d2, d3] }
  | _ => none }
def moveDoesRow : OpenClaim := { program := "ytfahepeemodcbaa", sum := "e7da618fe268e3055e1c4c3caf552e7a0b58a7665efc94fea007b644989fe9b2", func := "logboom/logboomlaw11.MoveDoes", spec := "moveDoes", unfollowed := true, recurses := true, apart := false }
def MoveDoesSaid : Prop := moveDoesRow.holds Try.pinned (OpenSpec.ofChange moveDoesSpec)

/-- ITS FALSE NEIGHBOUR: 'it returns false'. Refute it at one input. -/
def moveDoesWrong : ChangeSpec := { name := "moveDoes", fn := fun _ => fun
  | [d1, d2, d3] => { results := [.lit (.bool false)], args := [d1, d2, d3] }
  | _ => none }
def MoveDoesWrongFalsely : Prop := moveDoesRow.holds Try.pinned (OpenSpec.ofChange moveDoesWrong)

/-- 'logboomlaw11.MovePlays': WHATEVER THE INPUT: true; the input reads as it did. -/
def movePlaysSpec : ChangeSpec := { name := "movePlays", fn := fun _ => fun
  | [d1, d2] => { results := [.lit (.bool true)], args := [d1, d2] }
  | _ => none }
def movePlaysRow : OpenClaim := { program := "ytfahepeemodcbaa", sum := "e7da618fe268e3055e1c4c3caf552e7a0b58a7665efc94fea007b644989fe9b2", func := "logboom/logboomlaw11.MovePlays", spec := "movePlays", unfollowed := true, recurses := true, apart := false }
def MovePlaysSaid : Prop := movePlaysRow.holds Try.pinned (OpenSpec.ofChange movePlaysSpec)

/-- ITS FALSE NEIGHBOUR: 'it returns false'. Refute it at one input. -/
def movePlaysWrong : ChangeSpec := { name := "movePlays", fn := fun _ => fun
  | [d1, d2] => { results := [.lit (.bool false)], args := [d1, d2] }
  | _ => none }
def MovePlaysWrongFalsely : Prop := movePlaysRow.holds Try.pinned (OpenSpec.ofChange movePlaysWrong)

/-- 'logboomlaw11.MoveRules': WHATEVER THE INPUT: true; the input reads as it did. -/
def moveRulesSpec : ChangeSpec := { name := "moveRules", fn := fun _ => fun
  | [d1, d2] => { results := [.lit (.bool true)], args := [d1, d2] }
  | _ => none }
def moveRulesRow : OpenClaim := { program := "ytfahepeemodcbaa", sum := "e7da618fe268e3055e1c4c3caf552e7a0b58a7665efc94fea007b644989fe9b2", func := "logboom/logboomlaw11.MoveRules", spec := "moveRules", unfollowed := true, recurses := true, apart := false }
def MoveRulesSaid : Prop := moveRulesRow.holds Try.pinned (OpenSpec.ofChange moveRulesSpec)

/-- ITS FALSE NEIGHBOUR: 'it returns false'. Refute it at one input. -/
def moveRulesWrong : ChangeSpec := { name := "moveRules", fn := fun _ => fun
  | [d1, d2] => { results := [.lit (.bool false)], args := [d1, d2] }
  | _ => none }
def MoveRulesWrongFalsely : Prop := moveRulesRow.holds Try.pinned (OpenSpec.ofChange moveRulesWrong)

/-- 'logboomlaw11.MoveBack': WHATEVER THE INPUT: true; the input reads as it did. -/
def moveBackSpec : ChangeSpec := { name := "moveBack", fn := fun _ => fun
  | [d1, d2, d3] => { results := [.lit (.bool true)], args := [d1, d2, d3] }
  | _ => none }
def moveBackRow : OpenClaim := { program := "ytfahepeemodcbaa", sum := "e7da618fe268e3055e1c4c3caf552e7a0b58a7665efc94fea007b644989fe9b2", func := "logboom/logboomlaw11.MoveBack", spec := "moveBack", unfollowed := true, recurses := true, apart := false }
def MoveBackSaid : Prop := moveBackRow.holds Try.pinned (OpenSpec.ofChange moveBackSpec)

/-- ITS FALSE NEIGHBOUR: 'it returns false'. Refute it at one input. -/
def moveBackWrong : ChangeSpec := { name := "moveBack", fn := fun _ => fun
  | [d1, d2, d3] => { results := [.lit (.bool false)], args := [d1, d2, d3] }
  | _ => none }
def MoveBackWrongFalsely : Prop := moveBackRow.holds Try.pinned (OpenSpec.ofChange moveBackWrong)

/-- 'logboomlaw11.MoveEnds': WHATEVER THE INPUT: true; the input reads as it did. -/
def moveEndsSpec : ChangeSpec := { name := "moveEnds", fn := fun _ => fun
  | [d1, d2] => { results := [.lit (.bool true)], args := [d1, d2] }
  | _ => none }
def moveEndsRow : OpenClaim := { program := "ytfahepeemodcbaa", sum := "e7da618fe268e3055e1c4c3caf552e7a0b58a7665efc94fea007b644989fe9b2", func := "logboom/logboomlaw11.MoveEnds", spec := "moveEnds", unfollowed := true, recurses := true, apart := false }
def MoveEndsSaid : Prop := moveEndsRow.holds Try.pinned (OpenSpec.ofChange moveEndsSpec)

/-- ITS FALSE NEIGHBOUR: 'it returns false'. Refute it at one input. -/
def moveEndsWrong : ChangeSpec := { name := "moveEnds", fn := fun _ => fun
  | [d1, d2] => { results := [.lit (.bool false)], args := [d1, d2] }
  | _ => none }
def MoveEndsWrongFalsely : Prop := moveEndsRow.holds Try.pinned (OpenSpec.ofChange moveEndsWrong)

/-- 'logboomlaw11.MoveFences': WHATEVER THE INPUT: true; the input reads as it did. -/
def moveFencesSpec : ChangeSpec := { name := "moveFences", fn := fun _ => fun
  | [d1, d2] => { results := [.lit (.bool true)], args := [d1, d2] }
  | _ => none }
def moveFencesRow : OpenClaim := { program := "ytfahepeemodcbaa", sum := "e7da618fe268e3055e1c4c3caf552e7a0b58a7665efc94fea007b644989fe9b2", func := "logboom/logboomlaw11.MoveFences", spec := "moveFences", unfollowed := true, recurses := true, apart := false }
def MoveFencesSaid : Prop := moveFencesRow.holds Try.pinned (OpenSpec.ofChange moveFencesSpec)

/-- ITS FALSE NEIGHBOUR: 'it returns false'. Refute it at one input. -/
def moveFencesWrong : ChangeSpec := { name := "moveFences", fn := fun _ => fun
  | [d1, d2] => { results := [.lit (.bool false)], args := [d1, d2] }
  | _ => none }
def MoveFencesWrongFalsely : Prop := moveFencesRow.holds Try.pinned (OpenSpec.ofChange moveFencesWrong)

/- THE SECOND FORM. 'bulk': how many values and letters a reading holds, each counted each time it is reached (what is shared counts as often as it is met; a slice's spare places count too). A statement '..UptoSaid' is the law's where the arguments, and the package variables that the reading takes, are together of bulk at most 1048576: NARROWER than '..Said'. Prove '..Said' where nothing that the law and all that it calls make is longer than what came in: it says more and counts as full. Else prove '..UptoSaid'. A law counts once. -/
mutual
def uptoBulk {H : Type} : DataW H → Nat
  | .lit (.string bytes) => bytes.length + 1
  | .lit _ => 1
  | .nil => 1
  | .ptr d => uptoBulk d + 1
  | .slice elems spare => uptoBulkAll elems + uptoBulkAll spare + 1
  | .agg parts => uptoBulkAll parts + 1
  | .iface _ d => uptoBulk d + 1
  | .map entries => uptoBulkEntries entries + 1
  | .held _ => 1
def uptoBulkAll {H : Type} : List (DataW H) → Nat
  | [] => 0
  | d :: r => uptoBulk d + uptoBulkAll r
def uptoBulkEntries {H : Type} : List (Lit × DataW H) → Nat
  | [] => 0
  | x :: r => uptoBulkEntry x + uptoBulkEntries r
def uptoBulkEntry {H : Type} : Lit × DataW H → Nat
  | (.string bytes, d) => bytes.length + uptoBulk d + 1
  | (_, d) => uptoBulk d + 1
 end
def uptoSmall : (H : Type) → List (DataW H) → Bool := fun _ ds => decide (uptoBulkAll ds ≤ 1048576)
def OpenSpec.upto (s : _root_.Go.ChangeSpec) : _root_.Go.OpenSpec := { _root_.Go.OpenSpec.ofChange s with cond := some uptoSmall }

/-- 'logboomlaw11.MoveDoes', WHERE WHAT IT READS IS OF BULK AT MOST 1048576: true; the input reads as it did. -/
def moveDoesUptoRow : OpenClaim := { program := "ytfahepeemodcbaa", sum := "e7da618fe268e3055e1c4c3caf552e7a0b58a7665efc94fea007b644989fe9b2", func := "logboom/logboomlaw11.MoveDoes", spec := "moveDoes", unfollowed := true, recurses := true, apart := false, narrowed := true }
def MoveDoesUptoSaid : Prop := moveDoesUptoRow.holds Try.pinned (OpenSpec.upto moveDoesSpec)

/-- 'logboomlaw11.MovePlays', WHERE WHAT IT READS IS OF BULK AT MOST 1048576: true; the input reads as it did. -/
def movePlaysUptoRow : OpenClaim := { program := "ytfahepeemodcbaa", sum := "e7da618fe268e3055e1c4c3caf552e7a0b58a7665efc94fea007b644989fe9b2", func := "logboom/logboomlaw11.MovePlays", spec := "movePlays", unfollowed := true, recurses := true, apart := false, narrowed := true }
def MovePlaysUptoSaid : Prop := movePlaysUptoRow.holds Try.pinned (OpenSpec.upto movePlaysSpec)

/-- 'logboomlaw11.MoveRules', WHERE WHAT IT READS IS OF BULK AT MOST 1048576: true; the input reads as it did. -/
def moveRulesUptoRow : OpenClaim := { program := "ytfahepeemodcbaa", sum := "e7da618fe268e3055e1c4c3caf552e7a0b58a7665efc94fea007b644989fe9b2", func := "logboom/logboomlaw11.MoveRules", spec := "moveRules", unfollowed := true, recurses := true, apart := false, narrowed := true }
def MoveRulesUptoSaid : Prop := moveRulesUptoRow.holds Try.pinned (OpenSpec.upto moveRulesSpec)

/-- 'logboomlaw11.MoveBack', WHERE WHAT IT READS IS OF BULK AT MOST 1048576: true; the input reads as it did. -/
def moveBackUptoRow : OpenClaim := { program := "ytfahepeemodcbaa", sum := "e7da618fe268e3055e1c4c3caf552e7a0b58a7665efc94fea007b644989fe9b2", func := "logboom/logboomlaw11.MoveBack", spec := "moveBack", unfollowed := true, recurses := true, apart := false, narrowed := true }
def MoveBackUptoSaid : Prop := moveBackUptoRow.holds Try.pinned (OpenSpec.upto moveBackSpec)

/-- 'logboomlaw11.MoveEnds', WHERE WHAT IT READS IS OF BULK AT MOST 1048576: true; the input reads as it did. -/
def moveEndsUptoRow : OpenClaim := { program := "ytfahepeemodcbaa", sum := "e7da618fe268e3055e1c4c3caf552e7a0b58a7665efc94fea007b644989fe9b2", func := "logboom/logboomlaw11.MoveEnds", spec := "moveEnds", unfollowed := true, recurses := true, apart := false, narrowed := true }
def MoveEndsUptoSaid : Prop := moveEndsUptoRow.holds Try.pinned (OpenSpec.upto moveEndsSpec)

/-- 'logboomlaw11.MoveFences', WHERE WHAT IT READS IS OF BULK AT MOST 1048576: true; the input reads as it did. -/
def moveFencesUptoRow : OpenClaim := { program := "ytfahepeemodcbaa", sum := "e7da618fe268e3055e1c4c3caf552e7a0b58a7665efc94fea007b644989fe9b2", func := "logboom/logboomlaw11.MoveFences", spec := "moveFences", unfollowed := true, recurses := true, apart := false, narrowed := true }
def MoveFencesUptoSaid : Prop := moveFencesUptoRow.holds Try.pinned (OpenSpec.upto moveFencesSpec)

end Rows
end Go.Proofs.Ytfahepeemodcbaa
