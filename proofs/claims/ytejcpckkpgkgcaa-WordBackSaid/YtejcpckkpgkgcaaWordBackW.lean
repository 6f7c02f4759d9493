/- The law WordBack: its walk. -/
import Derived.Test.YtejcpckkpgkgcaaWordC
namespace Go.Proofs.Ytejcpckkpgkgcaa
open Go.ChangeShapes Go.WideShapes Go.ChangeAt Go.RowKit
set_option linter.unusedVariables false

theorem and63 {b : Int} (hb : W64 b) : 0 ≤ bits .and .u64 b 63 ∧ bits .and .u64 b 63 ≤ 63 := by
  have h63 : W64 63 := by unfold W64; decide
  rw [and_nat hb h63]
  unfold andV
  have h : b.toNat &&& (63 : Int).toNat ≤ (63 : Int).toNat := Nat.and_le_right
  have e : (63 : Int).toNat = 63 := rfl
  omega

set_option maxHeartbeats 2000000 in
theorem WordBack_walk (a0 : Int) (a1 : Int) (w0 : (Lit.int .u64 a0).wf = true) (w1 : (Lit.int .u64 a1).wf = true) (w : World) :
    Calls Try.prog 7 #[.int .u64 a0, .int .u64 a1] w fun e w' => e = .returned (.bool true) ∧ Grown w w' := by
  have ha : W64 a0 := bounds_u64 w0
  have hb : W64 a1 := bounds_u64 w1
  obtain ⟨l0, u0⟩ := id ha
  obtain ⟨l1, u1⟩ := id hb
  have hn := and63 hb
  have HW := Lib.hid wakes_any
  have hna : W64 (18446744073709551615 - a0) := by unfold W64; omega
  have hA : (∃ A1 : Hid (∀ w, Calls Try.prog 11 #[.int .u64 a0, .int .u64 a1] w fun e w' => e = .returned (.tuple #[.int .u64 (a0 + a1), .int .i64 0]) ∧ w = w'),
      Hid (∀ w, Calls Try.prog 21 #[.int .u64 (a0 + a1), .int .u64 a1] w fun e w' => e = .returned (.tuple #[.int .u64 a0, .int .i64 0]) ∧ w = w')) ∨
      (∃ A1 : Hid (∀ w, Calls Try.prog 11 #[.int .u64 a0, .int .u64 a1] w fun e w' => e = .returned (.tuple #[.int .u64 0, .int .i64 5]) ∧ w = w'),
      Hid (∀ w, Calls Try.prog 21 #[.int .u64 (18446744073709551615 - a0), .int .u64 a1] w fun e w' => e = .returned (.tuple #[.int .u64 0, .int .i64 5]) ∧ w = w')) := by
    by_cases hs : a0 + a1 ≤ 18446744073709551615
    · have c := Sub_ok (a0 + a1) a1 ⟨by omega, hs⟩ hb (by omega)
      rw [show a0 + a1 - a1 = a0 from by omega] at c
      exact .inl ⟨Lib.hid (Add_ok a0 a1 ha hb hs), Lib.hid c⟩
    · exact .inr ⟨Lib.hid (Add_no a0 a1 ha hb (by omega)), Lib.hid (Sub_no (18446744073709551615 - a0) a1 hna hb (by omega))⟩
  have hM : (∃ m, ∃ M1 : Hid (∀ w, Calls Try.prog 13 #[.int .u64 a0, .int .u64 (bits .and .u64 a1 63)] w fun e w' => e = .returned (.tuple #[.int .u64 m, .int .i64 0]) ∧ w = w'),
      Hid (∀ w, Calls Try.prog 15 #[.int .u64 m, .int .u64 (bits .and .u64 a1 63)] w fun e w' => e = .returned (.tuple #[.int .u64 a0, .int .i64 0]) ∧ w = w')) ∨
      (∃ M1 : Hid (∀ w, Calls Try.prog 13 #[.int .u64 a0, .int .u64 (bits .and .u64 a1 63)] w fun e w' => e = .returned (.tuple #[.int .u64 0, .int .i64 5]) ∧ w = w'), True) := by
    generalize bits .and .u64 a1 63 = n at hn
    have hp := pow2_pos n.toNat
    by_cases hs : a0 * 2 ^ n.toNat ≤ 18446744073709551615
    · have c := Shr_ok (a0 * 2 ^ n.toNat) n ⟨Int.mul_nonneg l0 (by omega), hs⟩ hn.1 hn.2
      rw [Int.mul_ediv_cancel _ (by omega)] at c
      exact .inl ⟨_, Lib.hid (Shl_ok a0 n ha hn.1 hn.2 hs), Lib.hid c⟩
    · exact .inr ⟨Lib.hid (Shl_no a0 n ha hn.1 hn.2 (by omega)), trivial⟩
  by_cases hz : a1 = 0
  · have D1 : Hid (∀ w, Calls Try.prog 22 #[.int .u64 a0, .int .u64 a1] w fun e w' => e = .returned (.tuple #[.int .u64 0, .int .i64 6]) ∧ w = w') := by rw [hz]; exact Lib.hid (Div_no a0)
    have D2 : Hid (∀ w, Calls Try.prog 23 #[.int .u64 a0, .int .u64 a1] w fun e w' => e = .returned (.tuple #[.int .u64 0, .int .i64 6]) ∧ w = w') := by rw [hz]; exact Lib.hid (Mod_no a0)
    have hz' : a1 ≤ 0 := by omega
    clear hn hz
    rcases hA with ⟨A1, A2⟩ | ⟨A1, A2⟩
    all_goals rcases hM with ⟨m, M1, M2⟩ | ⟨M1, M2⟩
    all_goals
      go_enter Try.func7, Try.ntmps7
      go_wp2_with (first | ((with_reducible refine (A1.out _).mono ?_); rintro e w' ⟨rfl, rfl⟩) | ((with_reducible refine (A2.out _).mono ?_); rintro e w' ⟨rfl, rfl⟩) | ((with_reducible refine (M1.out _).mono ?_); rintro e w' ⟨rfl, rfl⟩) | ((with_reducible refine (M2.out _).mono ?_); rintro e w' ⟨rfl, rfl⟩) | ((with_reducible refine (D1.out _).mono ?_); rintro e w' ⟨rfl, rfl⟩) | ((with_reducible refine (D2.out _).mono ?_); rintro e w' ⟨rfl, rfl⟩) | ((with_reducible refine (HW.out _).mono ?_); rintro e w' ⟨rfl, rfl⟩))
      go_ret
      exact ⟨rfl, Grown.refl _⟩
  · have hz' : 0 < a1 := by omega
    have hz1 : (a1 == 0) = false := by rw [beq_eq_false_iff_ne]; exact hz
    obtain ⟨r1, r2, r3⟩ := mod_le ha l1 hz
    obtain ⟨q1, q2⟩ := div_le ha l1
    have e1 := Int.mul_ediv_add_emod a0 a1
    have e2 : a0 / a1 * a1 = a1 * (a0 / a1) := Int.mul_comm _ _
    have D1 := Lib.hid (Div_ok a0 a1 ha hb hz')
    have D2 := Lib.hid (Mod_ok a0 a1 ha hb hz')
    have P1 := Lib.hid (Mul_ok (a0 / a1) a1 ⟨q1, q2⟩ hb (by omega))
    have c := Add_ok (a0 / a1 * a1) (a0 % a1) ⟨by omega, by omega⟩ ⟨r1, by omega⟩ (by omega)
    rw [show a0 / a1 * a1 + a0 % a1 = a0 from by omega] at c
    have P2 := Lib.hid c
    clear c e1 e2 hn
    rcases hA with ⟨A1, A2⟩ | ⟨A1, A2⟩
    all_goals rcases hM with ⟨m, M1, M2⟩ | ⟨M1, M2⟩
    all_goals
      go_enter Try.func7, Try.ntmps7
      go_wp2_with (first | ((with_reducible refine (A1.out _).mono ?_); rintro e w' ⟨rfl, rfl⟩) | ((with_reducible refine (A2.out _).mono ?_); rintro e w' ⟨rfl, rfl⟩) | ((with_reducible refine (M1.out _).mono ?_); rintro e w' ⟨rfl, rfl⟩) | ((with_reducible refine (M2.out _).mono ?_); rintro e w' ⟨rfl, rfl⟩) | ((with_reducible refine (D1.out _).mono ?_); rintro e w' ⟨rfl, rfl⟩) | ((with_reducible refine (D2.out _).mono ?_); rintro e w' ⟨rfl, rfl⟩) | ((with_reducible refine (P1.out _).mono ?_); rintro e w' ⟨rfl, rfl⟩) | ((with_reducible refine (P2.out _).mono ?_); rintro e w' ⟨rfl, rfl⟩) | ((with_reducible refine (HW.out _).mono ?_); rintro e w' ⟨rfl, rfl⟩))
      go_ret
      exact ⟨rfl, Grown.refl _⟩

end Go.Proofs.Ytejcpckkpgkgcaa
