/- Texts as the model has them. -/
import Derived.Test.YtoengahfkfmfeaaChecked
import Derived.WalkKit
import Derived.OwnWalk
import Derived.ProofKit
import Derived.WalkSmall
import Derived.Lib.Hide
set_option linter.unusedVariables false
set_option linter.unusedSimpArgs false
namespace Go.Proofs.Ytoengahfkfmfeaa
open Go.ChangeShapes Go.WideShapes Go.ChangeAt Go.RowKit

/-- A text as the model has it. -/
def bs (l : List UInt8) : ByteArray := ⟨l.toArray⟩
theorem bs_list (l : List UInt8) : (bs l).data.toList = l := rfl
theorem bs_size (l : List UInt8) : (bs l).size = l.length := rfl
theorem bs_of (s : ByteArray) : bs s.data.toList = s := rfl
end Go.Proofs.Ytoengahfkfmfeaa
