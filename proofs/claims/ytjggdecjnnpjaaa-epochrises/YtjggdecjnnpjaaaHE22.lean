/- EpochRises, as its statement calls it. -/
import Derived.Test.YtjggdecjnnpjaaaHE20
namespace Go.Proofs.Ytjggdecjnnpjaaa
open Go.RowKit Go.Maps Go.Sort
theorem rises_top (w : World) (so : Option Addr) (cap0 : Nat) (ops : List OpV) (hops : OpsAt w so ops) (hlen : ops.length ≤ maxLen) (epoch : Int) (_ : -9223372036854775808 ≤ epoch ∧ epoch ≤ 9223372036854775807) (next : Int) (_ : -9223372036854775808 ≤ next ∧ next ≤ 9223372036854775807) :
    Calls Try.prog 5 #[.slice so ops.length cap0, .int .i64 epoch, .int .i64 next] w fun e w' => e = .returned (.bool true) ∧ Below w.heap.size w w' := rises_walk w so cap0 ops hops hlen epoch next
end Go.Proofs.Ytjggdecjnnpjaaa

