/- Contracts of layer 2: the valid sizes, the place of a byte, and bytes turned round; package ends, and the document's own answers. -/
import Derived.Test.YtoihfbcjiolcpaaWordM
import Derived.Test.YtoihfbcjiolcpaaEndsP
import Derived.Test.YtoihfbcjiolcpaaOwn
import Derived.StillTailTactics
import Derived.Handy
namespace Go.Proofs.Ytoihfbcjiolcpaa
open Go.ChangeShapes Go.WideShapes Go.ChangeAt Go.RowKit
set_option linter.unusedVariables false

theorem Good_any (k : Int) (w : World) :
    Calls Try.prog 10 #[.int .i64 k] w fun e w' => e = .returned (.bool (goodB k)) ∧ w = w' := by
  go_enter Try.func10, Try.ntmps10
  go_wp2
  all_goals go_ret
  all_goals exact ⟨ret_bool (by simp_all [goodB]), rfl⟩

theorem refGood_any (k : Int) (w : World) :
    Calls Try.prog 11 #[.int .i64 k] w fun e w' => e = .returned (.bool (goodB k)) ∧ w = w' := by
  go_enter Try.func11, Try.ntmps11
  go_wp2
  all_goals go_ret
  all_goals exact ⟨ret_bool (by simp [goodB]; try omega), rfl⟩

theorem place_any (r m : Nat) (little : Bool) (hr : r < m) (hm : m ≤ 8) (w : World) :
    Calls Try.prog 18 #[.int .i64 r, .int .i64 m, .bool little] w fun e w' => e = .returned (.int .i64 (placeN little r m : Nat)) ∧ w = w' := by
  cases little
  all_goals
    go_enter Try.func18, Try.ntmps18
    go_wp2
    go_ret
    exact ⟨by simp [placeN]; try omega, rfl⟩

theorem info_u8 : (Try.prog.info? 5).map (fun i => (i.zero, i.size, i.bytes)) = some (some (.int .u8 0), 1, 1) := by kernel_rfl

end Go.Proofs.Ytoihfbcjiolcpaa
