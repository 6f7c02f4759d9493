/- Layer 10, mathematics: an expression of a parsed File as one that is evaluated. No program. -/
import Derived.Test.YtomimkgaelkaoaaGreatDoorC12ExP
import Derived.Test.YtomimkgaelkaoaaGreatDoorC12ParseP
set_option linter.unusedVariables false
set_option linter.unusedSimpArgs false
namespace Go.Proofs.YtomimkgaelkaoaaGreatDoor
def XM.xe (x : XM) : XE := ⟨x.k, x.op, x.n, x.s, x.kids.map fun (k : Nat) => (k : Int)⟩
end Go.Proofs.YtomimkgaelkaoaaGreatDoor
