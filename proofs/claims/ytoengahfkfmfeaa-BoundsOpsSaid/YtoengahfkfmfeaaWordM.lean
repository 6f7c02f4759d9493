/- Contracts of package word (layer 1): Mask alone, for a translation that has no other function of it. -/
import Derived.Test.YtoengahfkfmfeaaRows
import Derived.Test.YtoengahfkfmfeaaWordP
import Derived.WalkKit
import Derived.ProofKit
import Derived.OpenShut
import Derived.WalkLawsBesides
import Derived.WalkSpells
import Derived.Lib.Hide
import Derived.Outline
set_option linter.unusedVariables false
set_option linter.unusedSimpArgs false
namespace Go.Proofs.Ytoengahfkfmfeaa
open Go.ChangeShapes Go.WideShapes Go.ChangeAt Go.RowKit

theorem ret_u64 {x y : Int} (h : x = y) : Ending.returned (.int .u64 x) = .returned (.int .u64 y) := by rw [h]
theorem ret_bool {x y : Bool} (h : x = y) : Ending.returned (.bool x) = .returned (.bool y) := by rw [h]

theorem mask_ge {n : Int} (h : 64 ≤ n) : maskV n = 18446744073709551615 := by
  unfold maskV
  rw [show min n.toNat 64 = 64 from by omega]
  rfl

theorem mask_lt {n : Int} (h0 : 0 ≤ n) (h : n < 64) : maskV n = IntKind.u64.wrap (2 ^ n.toNat) - 1 := by
  unfold maskV
  rw [show min n.toNat 64 = n.toNat from by omega, IntKind.wrap_u64]
  have h2 : (2 : Int) ^ n.toNat ≤ 2 ^ 63 := by
    have : (2 : Nat) ^ n.toNat ≤ 2 ^ 63 := Nat.pow_le_pow_right (by omega) (by omega)
    exact_mod_cast this
  have h3 := pow2_pos n.toNat
  rw [Int.emod_eq_of_lt (by omega) (by omega)]

theorem Mask_any (n : Int) (h : (Lit.int .i64 n).wf = true) (w : World) :
    Calls Try.prog 29 #[.int .i64 n] w fun e w' => e = .returned (.int .u64 (maskV n)) ∧ w = w' := by
  obtain ⟨n1, n2⟩ := bounds_i64 h
  by_cases hn : n < 0
  · go_enter Try.func29, Try.ntmps29
    go_wp2
    go_ret
    exact ⟨ret_u64 (by unfold maskV; rw [show n.toNat = 0 from by omega]; rfl), rfl⟩
  · by_cases hm : 64 ≤ n
    · go_enter Try.func29, Try.ntmps29
      go_wp2
      go_ret
      exact ⟨ret_u64 (by rw [mask_ge hm]; simp only [IntKind.wrap_u64]; rfl), rfl⟩
    · have hm' : n < 64 := by omega
      go_enter Try.func29, Try.ntmps29
      go_wp2
      go_ret
      exact ⟨ret_u64 (by rw [mask_lt (by omega) hm']; simp only [IntKind.wrap_u64]; have := (mask_le n); rw [mask_lt (by omega) hm', IntKind.wrap_u64] at this; omega), rfl⟩

end Go.Proofs.Ytoengahfkfmfeaa
