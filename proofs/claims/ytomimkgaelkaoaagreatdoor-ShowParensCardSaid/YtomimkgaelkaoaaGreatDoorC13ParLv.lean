/- Layer 7, the mathematics: what a description is, as a plain function of its bytes; descriptions of the laws. No program. -/
import Derived.Test.YtomimkgaelkaoaaGreatDoorC13ParseP
set_option linter.unusedVariables false
set_option linter.unusedSimpArgs false
namespace Go.Proofs.YtomimkgaelkaoaaGreatDoor
inductive FR
 |ok (f:FM)
 |bad (p:Ps) (e:Nat)
deriving DecidableEq
def parseL (s:List UInt8):FR:=
 match lexL s with
 | .bad p e=> .bad p e
 | .ok ts=>match fileP ts with
  | .ok a _=> .ok (putF a.1 a.2)
  | .bad l e=> .bad (hd l).p e
end Go.Proofs.YtomimkgaelkaoaaGreatDoor
