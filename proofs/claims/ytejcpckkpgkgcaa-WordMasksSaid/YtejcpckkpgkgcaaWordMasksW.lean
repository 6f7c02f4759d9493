/- The law WordMasks: the document's own answer, and the walk. -/
import Derived.Test.YtejcpckkpgkgcaaWordC
import Derived.Handy
namespace Go.Proofs.Ytejcpckkpgkgcaa
open Go.ChangeShapes Go.WideShapes Go.ChangeAt Go.RowKit
set_option linter.unusedVariables false

def maskN (k : Nat) : Int := 2 ^ k - 1
theorem maskN_succ (k : Nat) : maskN (k + 1) = maskN k + maskN k + 1 := by
  unfold maskN
  rw [Int.pow_succ]
  omega
theorem maskN_le (k : Nat) (h : k ≤ 63) : 0 ≤ maskN k ∧ maskN k ≤ 9223372036854775807 := by
  unfold maskN
  have h1 := pow2_pos k
  have h2 : (2 : Int) ^ k ≤ 2 ^ 63 := by
    have : (2 : Nat) ^ k ≤ 2 ^ 63 := Nat.pow_le_pow_right (by omega) h
    exact_mod_cast this
  omega

theorem refMask_any (n : Int) (h : (Lit.int .i64 n).wf = true) (w : World) :
    Calls Try.prog 17 #[.int .i64 n] w fun e w' => e = .returned (.int .u64 (maskV n)) ∧ w = w' := by
  obtain ⟨n1, n2⟩ := bounds_i64 h
  go_enter Try.func17, Try.ntmps17
  go_wp2_with fail
  go_loop [3, 4] (fun m i => ∃ k : Nat, k ≤ n.toNat ∧ k ≤ 64 ∧ i = .int .i64 k ∧ m = .int .u64 (maskN k)) (fun _ i => 64 - (intOf i).toNat)
  case atStart => exact ⟨0, by omega, by omega, rfl, rfl⟩
  case round =>
    obtain ⟨k, hk, hk', rfl, rfl⟩ := hrel
    by_cases h1 : (k : Int) < n
    · by_cases h2 : k < 64
      · obtain ⟨b1, b2⟩ := maskN_le k (by omega)
        have hs := Lib.hid (maskN_succ k)
        go_wp2
        go_round
        case rel => exact ⟨k + 1, by omega, by omega, by go_num, by rw [hs.out]⟩
        case measure => simp [intOf]; omega
      · have h2' : 64 ≤ k := by omega
        clear h2
        go_wp2
        go_ret
        exact ⟨ret_u64 (by unfold maskN maskV; rw [show min n.toNat 64 = k from by omega]), rfl⟩
    · have h1' : n ≤ (k : Int) := by omega
      have hd : decide ((k : Int) < n) = false := by simpa using h1
      clear h1
      go_wp2
      go_ret
      exact ⟨ret_u64 (by unfold maskN maskV; rw [show min n.toNat 64 = k from by omega]), rfl⟩

theorem and1 {a : Int} (ha : W64 a) : bits .and .u64 a 1 = 0 ∨ bits .and .u64 a 1 = 1 := by
  have h1 : W64 1 := by unfold W64; decide
  rw [and_nat ha h1]
  unfold andV
  have h : a.toNat &&& (1 : Int).toNat ≤ (1 : Int).toNat := Nat.and_le_right
  have e : (1 : Int).toNat = 1 := rfl
  omega

theorem WordMasks_walk (a0 : Int) (a1 : Int) (w0 : (Lit.int .u64 a0).wf = true) (w1 : (Lit.int .i64 a1).wf = true) (w : World) :
    Calls Try.prog 5 #[.int .u64 a0, .int .i64 a1] w fun e w' => e = .returned (.bool true) ∧ Grown w w' := by
  have ha : W64 a0 := bounds_u64 w0
  have w2 : (Lit.int .i64 (bits .and .i64 a1 127)).wf = true := wf_bits _ _ _ _
  have HW := Lib.hid wakes_any
  have T := Lib.hid Truth_any
  have R := Lib.hid (fun n h w => refMask_any n h w)
  have M := Lib.hid (fun n h w => Mask_any n h w)
  have F := Lib.hid (fun n h w => Fits_any a0 n ha h w)
  rcases and1 ha with h1 | h1
  all_goals
    go_enter Try.func5, Try.ntmps5
    go_wp2_with fail
    refine wp_loop_rounds 3 ?_
    repeat any_goals (rw [rounds_succ]; go_wp2_with (first | ((with_reducible refine (R.out _ (by assumption) _).mono ?_); rintro e w' ⟨rfl, rfl⟩) | ((with_reducible refine (M.out _ (by assumption) _).mono ?_); rintro e w' ⟨rfl, rfl⟩) | ((with_reducible refine (F.out _ (by assumption) _).mono ?_); rintro e w' ⟨rfl, rfl⟩) | ((with_reducible refine (T.out _ _).mono ?_); rintro e w' ⟨rfl, rfl⟩) | ((with_reducible refine (HW.out _).mono ?_); rintro e w' ⟨rfl, rfl⟩)))
    go_ret
    exact ⟨rfl, by go_grown⟩

end Go.Proofs.Ytejcpckkpgkgcaa
