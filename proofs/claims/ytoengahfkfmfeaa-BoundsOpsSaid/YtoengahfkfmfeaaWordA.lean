/- Contracts of package word (layer 1): each function returns the plain Lean function's numbers, and leaves the world alone. -/
import Derived.Test.YtoengahfkfmfeaaRows
import Derived.Test.YtoengahfkfmfeaaWordP
import Derived.WalkKit
import Derived.ProofKit
import Derived.OpenShut
import Derived.WalkLawsBesides
import Derived.WalkSpells
import Derived.Laws.Externs
import Derived.Lib.Mul64
import Derived.Laws.Bits64b
import Derived.Lib.Hide
import Derived.Outline
set_option linter.unusedVariables false
set_option linter.unusedSimpArgs false
namespace Go.Proofs.Ytoengahfkfmfeaa
open Go.ChangeShapes Go.WideShapes Go.ChangeAt Go.RowKit

theorem add64_0 (x y : Int) (hx : 0 ≤ x) (hy : 0 ≤ y) (w : World) : (callFunc 59 #[.int .u64 x, .int .u64 y, .int .u64 0]).run Try.prog w =
    .ok (.value (.tuple #[.int .u64 ((x + y) % 18446744073709551616), .int .u64 ((x + y) / 18446744073709551616)])) w := by
  rw [run_callFunc_extern Try.func59 (by kernel_rfl) (by kernel_rfl) (by kernel_rfl) (e := add64Entry) (by kernel_rfl), run_add64 x y 0 hx hy (by omega) (by omega)]
  simp only [Result.andThen, Int.add_zero]

theorem Add_ok (a b : Int) (ha : W64 a) (hb : W64 b) (h : a + b ≤ 18446744073709551615) (w : World) :
    Calls Try.prog 35 #[.int .u64 a, .int .u64 b] w fun e w' => e = .returned (.tuple #[.int .u64 (a + b), .int .i64 0]) ∧ w = w' := by
  obtain ⟨a1, a2⟩ := ha; obtain ⟨b1, b2⟩ := hb
  have e1 : (a + b) % 18446744073709551616 = a + b := by omega
  have e2 : (a + b) / 18446744073709551616 = 0 := by omega
  have e3 := fun w => add64_0 a b a1 b1 w
  simp only [e1, e2] at e3
  clear e1 e2
  have E3 := Lib.hid e3
  clear e3
  go_enter Try.func35, Try.ntmps35
  go_wp2_with (simp only [E3.out])
  go_ret2
  exact ⟨rfl, rfl⟩

theorem Add_no (a b : Int) (ha : W64 a) (hb : W64 b) (h : 18446744073709551615 < a + b) (w : World) :
    Calls Try.prog 35 #[.int .u64 a, .int .u64 b] w fun e w' => e = .returned (.tuple #[.int .u64 0, .int .i64 5]) ∧ w = w' := by
  obtain ⟨a1, a2⟩ := ha; obtain ⟨b1, b2⟩ := hb
  have e2 : (a + b) / 18446744073709551616 = 1 := by omega
  have e3 := fun w => add64_0 a b a1 b1 w
  simp only [e2] at e3
  clear e2
  have E3 := Lib.hid e3
  clear e3
  go_enter Try.func35, Try.ntmps35
  go_wp2_with (simp only [E3.out])
  go_ret2
  exact ⟨rfl, rfl⟩

theorem Sub_ok (a b : Int) (ha : W64 a) (hb : W64 b) (h : b ≤ a) (w : World) :
    Calls Try.prog 36 #[.int .u64 a, .int .u64 b] w fun e w' => e = .returned (.tuple #[.int .u64 (a - b), .int .i64 0]) ∧ w = w' := by
  obtain ⟨a1, a2⟩ := ha; obtain ⟨b1, b2⟩ := hb
  go_enter Try.func36, Try.ntmps36
  go_wp2
  go_ret2
  exact ⟨rfl, rfl⟩

theorem Sub_no (a b : Int) (ha : W64 a) (hb : W64 b) (h : a < b) (w : World) :
    Calls Try.prog 36 #[.int .u64 a, .int .u64 b] w fun e w' => e = .returned (.tuple #[.int .u64 0, .int .i64 5]) ∧ w = w' := by
  obtain ⟨a1, a2⟩ := ha; obtain ⟨b1, b2⟩ := hb
  go_enter Try.func36, Try.ntmps36
  go_wp2
  go_ret2
  exact ⟨rfl, rfl⟩

theorem Div_ok (a b : Int) (ha : W64 a) (hb : W64 b) (h : 0 < b) (w : World) :
    Calls Try.prog 38 #[.int .u64 a, .int .u64 b] w fun e w' => e = .returned (.tuple #[.int .u64 (a / b), .int .i64 0]) ∧ w = w' := by
  obtain ⟨a1, a2⟩ := ha; obtain ⟨b1, b2⟩ := hb
  have h0 : (b == 0) = false := by rw [beq_eq_false_iff_ne]; omega
  have h1 : 0 ≤ a / b := Int.ediv_nonneg a1 b1
  have h2 : a / b ≤ 18446744073709551615 := Int.le_trans (Int.ediv_le_self b a1) a2
  go_enter Try.func38, Try.ntmps38
  go_wp2
  go_ret2
  exact ⟨rfl, rfl⟩

theorem Div_no (a : Int) (w : World) :
    Calls Try.prog 38 #[.int .u64 a, .int .u64 0] w fun e w' => e = .returned (.tuple #[.int .u64 0, .int .i64 6]) ∧ w = w' := by
  go_enter Try.func38, Try.ntmps38
  go_wp2
  go_ret2
  exact ⟨rfl, rfl⟩

theorem Mod_ok (a b : Int) (ha : W64 a) (hb : W64 b) (h : 0 < b) (w : World) :
    Calls Try.prog 39 #[.int .u64 a, .int .u64 b] w fun e w' => e = .returned (.tuple #[.int .u64 (a % b), .int .i64 0]) ∧ w = w' := by
  obtain ⟨a1, a2⟩ := ha; obtain ⟨b1, b2⟩ := hb
  have h0 : (b == 0) = false := by rw [beq_eq_false_iff_ne]; omega
  have h1 : 0 ≤ a % b := Int.emod_nonneg _ (by omega)
  have h2 : a % b < b := Int.emod_lt_of_pos _ h
  go_enter Try.func39, Try.ntmps39
  go_wp2
  go_ret2
  exact ⟨rfl, rfl⟩

theorem Mod_no (a : Int) (w : World) :
    Calls Try.prog 39 #[.int .u64 a, .int .u64 0] w fun e w' => e = .returned (.tuple #[.int .u64 0, .int .i64 6]) ∧ w = w' := by
  go_enter Try.func39, Try.ntmps39
  go_wp2
  go_ret2
  exact ⟨rfl, rfl⟩

end Go.Proofs.Ytoengahfkfmfeaa
