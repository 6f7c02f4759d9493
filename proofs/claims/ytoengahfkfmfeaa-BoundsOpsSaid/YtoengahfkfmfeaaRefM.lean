/- Contract of the document's Mask (layer 1). -/
import Derived.Test.YtoengahfkfmfeaaWordM
import Derived.Handy
set_option linter.unusedVariables false
set_option linter.unusedSimpArgs false
namespace Go.Proofs.Ytoengahfkfmfeaa
open Go.ChangeShapes Go.WideShapes Go.ChangeAt Go.RowKit

def maskN (k : Nat) : Int := 2 ^ k - 1
theorem maskN_succ (k : Nat) : maskN (k + 1) = maskN k + maskN k + 1 := by
  unfold maskN
  rw [Int.pow_succ]
  omega
theorem maskN_le (k : Nat) (h : k ≤ 63) : 0 ≤ maskN k ∧ maskN k ≤ 9223372036854775807 := by
  unfold maskN
  have h1 := pow2_pos k
  have h2 : (2 : Int) ^ k ≤ 2 ^ 63 := by
    have : (2 : Nat) ^ k ≤ 2 ^ 63 := Nat.pow_le_pow_right (by omega) h
    exact_mod_cast this
  omega

theorem refMask_any (n : Int) (h : (Lit.int .i64 n).wf = true) (w : World) :
    Calls Try.prog 17 #[.int .i64 n] w fun e w' => e = .returned (.int .u64 (maskV n)) ∧ w = w' := by
  obtain ⟨n1, n2⟩ := bounds_i64 h
  go_enter Try.func17, Try.ntmps17
  go_wp2_with fail
  go_loop [3, 4] (fun m i => ∃ k : Nat, k ≤ n.toNat ∧ k ≤ 64 ∧ i = .int .i64 k ∧ m = .int .u64 (maskN k)) (fun _ i => 64 - (intOf i).toNat)
  case atStart => exact ⟨0, by omega, by omega, rfl, rfl⟩
  case round =>
    obtain ⟨k, hk, hk', rfl, rfl⟩ := hrel
    by_cases h1 : (k : Int) < n
    · by_cases h2 : k < 64
      · obtain ⟨b1, b2⟩ := maskN_le k (by omega)
        have hs := Lib.hid (maskN_succ k)
        go_wp2
        go_round
        case rel => exact ⟨k + 1, by omega, by omega, by go_num, by rw [hs.out]⟩
        case measure => simp [intOf]; omega
      · have h2' : 64 ≤ k := by omega
        clear h2
        go_wp2
        go_ret
        exact ⟨ret_u64 (by unfold maskN maskV; rw [show min n.toNat 64 = k from by omega]), rfl⟩
    · have h1' : n ≤ (k : Int) := by omega
      have hd : decide ((k : Int) < n) = false := by simpa using h1
      clear h1
      go_wp2
      go_ret
      exact ⟨ret_u64 (by unfold maskN maskV; rw [show min n.toNat 64 = k from by omega]), rfl⟩

end Go.Proofs.Ytoengahfkfmfeaa
