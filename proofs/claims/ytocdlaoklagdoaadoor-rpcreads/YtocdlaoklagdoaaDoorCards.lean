/-
  DERIVED. GIVEN WITH THE SEED: THE CARDS: each row of YtocdlaoklagdoaaDoorRows.lean that lists a variable, with what it lists TIED to the program's text (the seventh form; the later family's looks); each row that meets fmt, with fmt's text TOLD by the authors' own Lean function (tested against real Go, not proved from fmt's source: count such statements apart). THE CARD IS WHAT COUNTS. Prove the row's statement (the work); the ties are given (YtocdlaoklagdoaaDoorTie.lean); close each card by the builder's one call (the guide's Derived/Test/ToyasCard.lean, 'card_holds'). Laid BY PROGRAM, IN A SANDBOX (cutbox-door.mjs). By AI agents, Wed Nov 11 2026. No macro, syntax, notation, axiom, sorry.
-/
import Derived.Test.YtocdlaoklagdoaaDoorRows
import GoSem.ClaimSeven
namespace Go.Proofs.YtocdlaoklagdoaaDoor
namespace Rows

/-- THE TIED CARD OF 'logboomlaw4.RpcWrites'. -/
def rpcWritesCard : Claim7 := { stood := { row := rpcWritesRow, standIns := [], harness := (true, "5856d7fb109eb0f8f0e856034b73bf162cf32c427c00e7133d08403a84589c64"), looks := false }, kinds := [], alts := [], laidByText := true, laidKinds := [.data, .data], laidTests := true, laidLooks := .later }
def RpcWritesCardSaid : Prop := Claim7.holds Tryd.pinned (.plain (OpenSpec.ofChange rpcWritesSpec)) rpcWritesCard

/-- THE TIED CARD OF 'logboomlaw4.RpcReads'. -/
def rpcReadsCard : Claim7 := { stood := { row := rpcReadsRow, standIns := [], harness := (true, "5856d7fb109eb0f8f0e856034b73bf162cf32c427c00e7133d08403a84589c64"), looks := false }, kinds := [], alts := [], laidByText := true, laidKinds := [.data, .data], laidTests := true, laidLooks := .later }
def RpcReadsCardSaid : Prop := Claim7.holds Tryd.pinned (.plain (OpenSpec.ofChange rpcReadsSpec)) rpcReadsCard

/-- THE TIED CARD OF 'logboomlaw4.RpcAnswers'. -/
def rpcAnswersCard : Claim7 := { stood := { row := rpcAnswersRow, standIns := [], harness := (true, "5856d7fb109eb0f8f0e856034b73bf162cf32c427c00e7133d08403a84589c64"), looks := false }, kinds := [], alts := [], laidByText := true, laidKinds := [.data, .data], laidTests := true, laidLooks := .later }
def RpcAnswersCardSaid : Prop := Claim7.holds Tryd.pinned (.plain (OpenSpec.ofChange rpcAnswersSpec)) rpcAnswersCard

/-- THE TIED CARD OF 'logboomlaw4.RpcBack'. -/
def rpcBackCard : Claim7 := { stood := { row := rpcBackRow, standIns := [], harness := (true, "5856d7fb109eb0f8f0e856034b73bf162cf32c427c00e7133d08403a84589c64"), looks := false }, kinds := [], alts := [], laidByText := true, laidKinds := [.data, .data], laidTests := true, laidLooks := .later }
def RpcBackCardSaid : Prop := Claim7.holds Tryd.pinned (.plain (OpenSpec.ofChange rpcBackSpec)) rpcBackCard

/-- THE TIED CARD OF 'logboomlaw4.RpcTorn'. -/
def rpcTornCard : Claim7 := { stood := { row := rpcTornRow, standIns := [], harness := (true, "5856d7fb109eb0f8f0e856034b73bf162cf32c427c00e7133d08403a84589c64"), looks := false }, kinds := [], alts := [], laidByText := true, laidKinds := [.data, .data], laidTests := true, laidLooks := .later }
def RpcTornCardSaid : Prop := Claim7.holds Tryd.pinned (.plain (OpenSpec.ofChange rpcTornSpec)) rpcTornCard

/-- THE SECOND FORM's CARD OF 'logboomlaw4.RpcWrites'. -/
def rpcWritesUptoCard : Claim7 := { stood := { row := rpcWritesUptoRow, standIns := [], harness := (true, "5856d7fb109eb0f8f0e856034b73bf162cf32c427c00e7133d08403a84589c64"), looks := false }, kinds := [], alts := [], laidByText := true, laidKinds := [.data, .data], laidTests := true, laidLooks := .later }
def RpcWritesUptoCardSaid : Prop := Claim7.holds Tryd.pinned (.plain (OpenSpec.upto rpcWritesSpec)) rpcWritesUptoCard

/-- THE SECOND FORM's CARD OF 'logboomlaw4.RpcReads'. -/
def rpcReadsUptoCard : Claim7 := { stood := { row := rpcReadsUptoRow, standIns := [], harness := (true, "5856d7fb109eb0f8f0e856034b73bf162cf32c427c00e7133d08403a84589c64"), looks := false }, kinds := [], alts := [], laidByText := true, laidKinds := [.data, .data], laidTests := true, laidLooks := .later }
def RpcReadsUptoCardSaid : Prop := Claim7.holds Tryd.pinned (.plain (OpenSpec.upto rpcReadsSpec)) rpcReadsUptoCard

/-- THE SECOND FORM's CARD OF 'logboomlaw4.RpcAnswers'. -/
def rpcAnswersUptoCard : Claim7 := { stood := { row := rpcAnswersUptoRow, standIns := [], harness := (true, "5856d7fb109eb0f8f0e856034b73bf162cf32c427c00e7133d08403a84589c64"), looks := false }, kinds := [], alts := [], laidByText := true, laidKinds := [.data, .data], laidTests := true, laidLooks := .later }
def RpcAnswersUptoCardSaid : Prop := Claim7.holds Tryd.pinned (.plain (OpenSpec.upto rpcAnswersSpec)) rpcAnswersUptoCard

/-- THE SECOND FORM's CARD OF 'logboomlaw4.RpcBack'. -/
def rpcBackUptoCard : Claim7 := { stood := { row := rpcBackUptoRow, standIns := [], harness := (true, "5856d7fb109eb0f8f0e856034b73bf162cf32c427c00e7133d08403a84589c64"), looks := false }, kinds := [], alts := [], laidByText := true, laidKinds := [.data, .data], laidTests := true, laidLooks := .later }
def RpcBackUptoCardSaid : Prop := Claim7.holds Tryd.pinned (.plain (OpenSpec.upto rpcBackSpec)) rpcBackUptoCard

/-- THE SECOND FORM's CARD OF 'logboomlaw4.RpcTorn'. -/
def rpcTornUptoCard : Claim7 := { stood := { row := rpcTornUptoRow, standIns := [], harness := (true, "5856d7fb109eb0f8f0e856034b73bf162cf32c427c00e7133d08403a84589c64"), looks := false }, kinds := [], alts := [], laidByText := true, laidKinds := [.data, .data], laidTests := true, laidLooks := .later }
def RpcTornUptoCardSaid : Prop := Claim7.holds Tryd.pinned (.plain (OpenSpec.upto rpcTornSpec)) rpcTornUptoCard
end Rows
end Go.Proofs.YtocdlaoklagdoaaDoor
