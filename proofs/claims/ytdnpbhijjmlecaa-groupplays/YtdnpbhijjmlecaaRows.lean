/-
  No cell of these rows narrows 'for every input' (looked for: loops, veiled, ifaces, maps, wideKeys, modest, calm, conditions, laid).
  DERIVED. THE GIVEN ROWS OF THIS SEAT. 6 by the template 'for every input the law returns true; each argument reads behind the call as it read before'; 0 by the template 'total and deterministic' (their statements: YtdnpbhijjmlecaaTotals.lean).
  GIVEN WITH THE SEED: the statements are not yours to turn. If you find one false, say at which input.
  Laid BY PROGRAM, IN A SANDBOX (cutbox-rows.mjs): the forced cells as the released guide's own fill.sh prints them over the translation 04bd5b8fc737e026… (all of the seat's roots in one cut). By AI agents, Wed Nov 11 2026. No macro, syntax, notation, axiom, sorry.
-/
import Derived.Test.YtdnpbhijjmlecaaChecked
import GoSem.Claim
import GoSem.ClaimJoined
import GoSem.ClaimMapViews
import Derived.JoinedTies
import Derived.KernelRfl
namespace Go.Proofs.Ytdnpbhijjmlecaa
/- THE CELL 'sum', in the pinned program and in every row, IS THE sha256 OF THE DUMP (.gsa) THAT YtdnpbhijjmlecaaProg.lean LOADS. Nothing in Lean hashes anything: it is a label: what it is worth is what the hold of that sum in a sandbox is worth. -/
noncomputable def Try.pinned : Pinned := { name := "ytdnpbhijjmlecaa", sum := "04bd5b8fc737e0264c53cbb214deae6382d7873f34f97f39db640456a084f851", checked := Try.checked }
namespace Rows
def none {H : Type} : Left H := { results := [], args := [] }

/-- 'logboomlaw15.GroupPlays': WHATEVER THE INPUT: true; the input reads as it did. -/
def groupPlaysSpec : ChangeSpec := { name := "groupPlays", fn := fun _ => fun
  | [d1, d2] => { results := [.lit (.bool true)], args := [d1, d2] }
  | _ => none }
def groupPlaysRow : OpenClaim := { program := "ytdnpbhijjmlecaa", sum := "04bd5b8fc737e0264c53cbb214deae6382d7873f34f97f39db640456a084f851", func := "logboom/logboomlaw15.GroupPlays", spec := "groupPlays", unfollowed := true, recurses := true, apart := false }
def GroupPlaysSaid : Prop := groupPlaysRow.holds Try.pinned (OpenSpec.ofChange groupPlaysSpec)

/-- ITS FALSE NEIGHBOUR: 'it returns false'. Refute it at one input. -/
def groupPlaysWrong : ChangeSpec := { name := "groupPlays", fn := fun _ => fun
  | [d1, d2] => { results := [.lit (.bool false)], args := [d1, d2] }
  | _ => none }
def GroupPlaysWrongFalsely : Prop := groupPlaysRow.holds Try.pinned (OpenSpec.ofChange groupPlaysWrong)

/-- 'logboomlaw15.GroupAssigns': WHATEVER THE INPUT: true; the input reads as it did. -/
def groupAssignsSpec : ChangeSpec := { name := "groupAssigns", fn := fun _ => fun
  | [d1, d2] => { results := [.lit (.bool true)], args := [d1, d2] }
  | _ => none }
def groupAssignsRow : OpenClaim := { program := "ytdnpbhijjmlecaa", sum := "04bd5b8fc737e0264c53cbb214deae6382d7873f34f97f39db640456a084f851", func := "logboom/logboomlaw15.GroupAssigns", spec := "groupAssigns", unfollowed := true, recurses := true, apart := false }
def GroupAssignsSaid : Prop := groupAssignsRow.holds Try.pinned (OpenSpec.ofChange groupAssignsSpec)

/-- ITS FALSE NEIGHBOUR: 'it returns false'. Refute it at one input. -/
def groupAssignsWrong : ChangeSpec := { name := "groupAssigns", fn := fun _ => fun
  | [d1, d2] => { results := [.lit (.bool false)], args := [d1, d2] }
  | _ => none }
def GroupAssignsWrongFalsely : Prop := groupAssignsRow.holds Try.pinned (OpenSpec.ofChange groupAssignsWrong)

/-- 'logboomlaw15.GroupRules': WHATEVER THE INPUT: true; the input reads as it did. -/
def groupRulesSpec : ChangeSpec := { name := "groupRules", fn := fun _ => fun
  | [d] => { results := [.lit (.bool true)], args := [d] }
  | _ => none }
def groupRulesRow : OpenClaim := { program := "ytdnpbhijjmlecaa", sum := "04bd5b8fc737e0264c53cbb214deae6382d7873f34f97f39db640456a084f851", func := "logboom/logboomlaw15.GroupRules", spec := "groupRules", unfollowed := true, recurses := true, apart := false }
def GroupRulesSaid : Prop := groupRulesRow.holds Try.pinned (OpenSpec.ofChange groupRulesSpec)

/-- ITS FALSE NEIGHBOUR: 'it returns false'. Refute it at one input. -/
def groupRulesWrong : ChangeSpec := { name := "groupRules", fn := fun _ => fun
  | [d] => { results := [.lit (.bool false)], args := [d] }
  | _ => none }
def GroupRulesWrongFalsely : Prop := groupRulesRow.holds Try.pinned (OpenSpec.ofChange groupRulesWrong)

/-- 'logboomlaw15.GroupOnce': WHATEVER THE INPUT: true; the input reads as it did. -/
def groupOnceSpec : ChangeSpec := { name := "groupOnce", fn := fun _ => fun
  | [d1, d2] => { results := [.lit (.bool true)], args := [d1, d2] }
  | _ => none }
def groupOnceRow : OpenClaim := { program := "ytdnpbhijjmlecaa", sum := "04bd5b8fc737e0264c53cbb214deae6382d7873f34f97f39db640456a084f851", func := "logboom/logboomlaw15.GroupOnce", spec := "groupOnce", unfollowed := true, recurses := true, apart := false }
def GroupOnceSaid : Prop := groupOnceRow.holds Try.pinned (OpenSpec.ofChange groupOnceSpec)

/-- ITS FALSE NEIGHBOUR: 'it returns false'. Refute it at one input. -/
def groupOnceWrong : ChangeSpec := { name := "groupOnce", fn := fun _ => fun
  | [d1, d2] => { results := [.lit (.bool false)], args := [d1, d2] }
  | _ => none }
def GroupOnceWrongFalsely : Prop := groupOnceRow.holds Try.pinned (OpenSpec.ofChange groupOnceWrong)

/-- 'logboomlaw15.GroupApart': WHATEVER THE INPUT: true; the input reads as it did. -/
def groupApartSpec : ChangeSpec := { name := "groupApart", fn := fun _ => fun
  | [d] => { results := [.lit (.bool true)], args := [d] }
  | _ => none }
def groupApartRow : OpenClaim := { program := "ytdnpbhijjmlecaa", sum := "04bd5b8fc737e0264c53cbb214deae6382d7873f34f97f39db640456a084f851", func := "logboom/logboomlaw15.GroupApart", spec := "groupApart", unfollowed := true, recurses := true, apart := false }
def GroupApartSaid : Prop := groupApartRow.holds Try.pinned (OpenSpec.ofChange groupApartSpec)

/-- ITS FALSE NEIGHBOUR: 'it returns false'. Refute it at one input. -/
def groupApartWrong : ChangeSpec := { name := "groupApart", fn := fun _ => fun
  | [d] => { results := [.lit (.bool false)], args := [d] }
  | _ => none }
def GroupApartWrongFalsely : Prop := groupApartRow.holds Try.pinned (OpenSpec.ofChange groupApartWrong)

/-- 'logboomlaw15.GroupOwners': WHATEVER THE INPUT: true; the input reads as it did. -/
def groupOwnersSpec : ChangeSpec := { name := "groupOwners", fn := fun _ => fun
  | [d1, d2] => { results := [.lit (.bool true)], args := [d1, d2] }
  | _ => none }
def groupOwnersRow : OpenClaim := { program := "ytdnpbhijjmlecaa", sum := "04bd5b8fc737e0264c53cbb214deae6382d7873f34f97f39db640456a084f851", func := "logboom/logboomlaw15.GroupOwners", spec := "groupOwners", unfollowed := true, recurses := true, apart := false }
def GroupOwnersSaid : Prop := groupOwnersRow.holds Try.pinned (OpenSpec.ofChange groupOwnersSpec)

/-- ITS FALSE NEIGHBOUR: 'it returns false'. Refute it at one input. -/
def groupOwnersWrong : ChangeSpec := { name := "groupOwners", fn := fun _ => fun
  | [d1, d2] => { results := [.lit (.bool false)], args := [d1, d2] }
  | _ => none }
def GroupOwnersWrongFalsely : Prop := groupOwnersRow.holds Try.pinned (OpenSpec.ofChange groupOwnersWrong)

/- THE SECOND FORM. 'bulk': how many values and letters a reading holds, each counted each time it is reached (what is shared counts as often as it is met; a slice's spare places count too). A statement '..UptoSaid' is the law's where the arguments, and the package variables that the reading takes, are together of bulk at most 1048576: NARROWER than '..Said'. Prove '..Said' where nothing that the law and all that it calls make is longer than what came in: it says more and counts as full. Else prove '..UptoSaid'. A law counts once. -/
mutual
def uptoBulk {H : Type} : DataW H → Nat
  | .lit (.string bytes) => bytes.length + 1
  | .lit _ => 1
  | .nil => 1
  | .ptr d => uptoBulk d + 1
  | .slice elems spare => uptoBulkAll elems + uptoBulkAll spare + 1
  | .agg parts => uptoBulkAll parts + 1
  | .iface _ d => uptoBulk d + 1
  | .map entries => uptoBulkEntries entries + 1
  | .held _ => 1
def uptoBulkAll {H : Type} : List (DataW H) → Nat
  | [] => 0
  | d :: r => uptoBulk d + uptoBulkAll r
def uptoBulkEntries {H : Type} : List (Lit × DataW H) → Nat
  | [] => 0
  | x :: r => uptoBulkEntry x + uptoBulkEntries r
def uptoBulkEntry {H : Type} : Lit × DataW H → Nat
  | (.string bytes, d) => bytes.length + uptoBulk d + 1
  | (_, d) => uptoBulk d + 1
 end
def uptoSmall : (H : Type) → List (DataW H) → Bool := fun _ ds => decide (uptoBulkAll ds ≤ 1048576)
def OpenSpec.upto (s : _root_.Go.ChangeSpec) : _root_.Go.OpenSpec := { _root_.Go.OpenSpec.ofChange s with cond := some uptoSmall }

/-- 'logboomlaw15.GroupPlays', WHERE WHAT IT READS IS OF BULK AT MOST 1048576: true; the input reads as it did. -/
def groupPlaysUptoRow : OpenClaim := { program := "ytdnpbhijjmlecaa", sum := "04bd5b8fc737e0264c53cbb214deae6382d7873f34f97f39db640456a084f851", func := "logboom/logboomlaw15.GroupPlays", spec := "groupPlays", unfollowed := true, recurses := true, apart := false, narrowed := true }
def GroupPlaysUptoSaid : Prop := groupPlaysUptoRow.holds Try.pinned (OpenSpec.upto groupPlaysSpec)

/-- 'logboomlaw15.GroupAssigns', WHERE WHAT IT READS IS OF BULK AT MOST 1048576: true; the input reads as it did. -/
def groupAssignsUptoRow : OpenClaim := { program := "ytdnpbhijjmlecaa", sum := "04bd5b8fc737e0264c53cbb214deae6382d7873f34f97f39db640456a084f851", func := "logboom/logboomlaw15.GroupAssigns", spec := "groupAssigns", unfollowed := true, recurses := true, apart := false, narrowed := true }
def GroupAssignsUptoSaid : Prop := groupAssignsUptoRow.holds Try.pinned (OpenSpec.upto groupAssignsSpec)

/-- 'logboomlaw15.GroupRules', WHERE WHAT IT READS IS OF BULK AT MOST 1048576: true; the input reads as it did. -/
def groupRulesUptoRow : OpenClaim := { program := "ytdnpbhijjmlecaa", sum := "04bd5b8fc737e0264c53cbb214deae6382d7873f34f97f39db640456a084f851", func := "logboom/logboomlaw15.GroupRules", spec := "groupRules", unfollowed := true, recurses := true, apart := false, narrowed := true }
def GroupRulesUptoSaid : Prop := groupRulesUptoRow.holds Try.pinned (OpenSpec.upto groupRulesSpec)

/-- 'logboomlaw15.GroupOnce', WHERE WHAT IT READS IS OF BULK AT MOST 1048576: true; the input reads as it did. -/
def groupOnceUptoRow : OpenClaim := { program := "ytdnpbhijjmlecaa", sum := "04bd5b8fc737e0264c53cbb214deae6382d7873f34f97f39db640456a084f851", func := "logboom/logboomlaw15.GroupOnce", spec := "groupOnce", unfollowed := true, recurses := true, apart := false, narrowed := true }
def GroupOnceUptoSaid : Prop := groupOnceUptoRow.holds Try.pinned (OpenSpec.upto groupOnceSpec)

/-- 'logboomlaw15.GroupApart', WHERE WHAT IT READS IS OF BULK AT MOST 1048576: true; the input reads as it did. -/
def groupApartUptoRow : OpenClaim := { program := "ytdnpbhijjmlecaa", sum := "04bd5b8fc737e0264c53cbb214deae6382d7873f34f97f39db640456a084f851", func := "logboom/logboomlaw15.GroupApart", spec := "groupApart", unfollowed := true, recurses := true, apart := false, narrowed := true }
def GroupApartUptoSaid : Prop := groupApartUptoRow.holds Try.pinned (OpenSpec.upto groupApartSpec)

/-- 'logboomlaw15.GroupOwners', WHERE WHAT IT READS IS OF BULK AT MOST 1048576: true; the input reads as it did. -/
def groupOwnersUptoRow : OpenClaim := { program := "ytdnpbhijjmlecaa", sum := "04bd5b8fc737e0264c53cbb214deae6382d7873f34f97f39db640456a084f851", func := "logboom/logboomlaw15.GroupOwners", spec := "groupOwners", unfollowed := true, recurses := true, apart := false, narrowed := true }
def GroupOwnersUptoSaid : Prop := groupOwnersUptoRow.holds Try.pinned (OpenSpec.upto groupOwnersSpec)

end Rows
end Go.Proofs.Ytdnpbhijjmlecaa
