/- Contracts of the document's shifts (layer 1). -/
import Derived.Test.YtoengahfkfmfeaaWordC
import Derived.Handy
set_option linter.unusedVariables false
set_option linter.unusedSimpArgs false
namespace Go.Proofs.Ytoengahfkfmfeaa
open Go.ChangeShapes Go.WideShapes Go.ChangeAt Go.RowKit

theorem ret_pairI {r : Int × Int} {x y : Int} (h : r = (x, y)) : (Ending.returned (.tuple #[.int .u64 x, .int .i64 y])) = pairOf r := by subst h; rfl

def upN (a : Int) (k : Nat) : Int := a * 2 ^ k
theorem upN_succ (a : Int) (k : Nat) : upN a (k + 1) = upN a k + upN a k := by
  unfold upN
  rw [Int.pow_succ, ← Int.mul_assoc]
  omega
theorem upN_mono {a : Int} (ha : 0 ≤ a) {k n : Nat} (h : k ≤ n) : upN a k ≤ upN a n := by
  unfold upN
  refine Int.mul_le_mul_of_nonneg_left ?_ ha
  have : (2 : Nat) ^ k ≤ 2 ^ n := Nat.pow_le_pow_right (by omega) h
  exact_mod_cast this
def downN (a : Int) (k : Nat) : Int := a / 2 ^ k
theorem downN_succ (a : Int) (k : Nat) : downN a (k + 1) = downN a k / 2 := by
  unfold downN
  rw [Int.pow_succ, Int.ediv_ediv_of_nonneg (Int.le_of_lt (pow2_pos k))]
theorem downN_le {a : Int} (ha : W64 a) (k : Nat) : 0 ≤ downN a k ∧ downN a k ≤ 18446744073709551615 := div_le ha (Int.le_of_lt (pow2_pos k))

theorem refShl_any (a n : Int) (ha : W64 a) (hn : W64 n) (w : World) :
    Calls Try.prog 50 #[.int .u64 a, .int .u64 n] w fun e w' => e = pairOf (shlR a n) ∧ w = w' := by
  obtain ⟨n1, n2⟩ := hn
  by_cases h63 : 63 < n
  · go_enter Try.func50, Try.ntmps50
    go_wp2
    go_ret2
    exact ⟨ret_pairI (by unfold shlR; rw [if_neg (by omega)]), rfl⟩
  · go_enter Try.func50, Try.ntmps50
    go_wp2_with fail
    go_loop [0, 6] (fun m i => ∃ k : Nat, k ≤ n.toNat ∧ i = .int .u64 k ∧ m = .int .u64 (upN a k) ∧ upN a k ≤ 18446744073709551615) (fun _ i => n.toNat - (intOf i).toNat)
    case atStart => exact ⟨0, by omega, rfl, by simp [upN], by have := ha.2; simp [upN]; omega⟩
    case round =>
      obtain ⟨k, hk, rfl, rfl, hu⟩ := hrel
      have hl : 0 ≤ upN a k := Int.mul_nonneg ha.1 (Int.le_of_lt (pow2_pos _))
      by_cases h1 : (k : Int) < n
      · have hs := Lib.hid (upN_succ a k)
        by_cases h2 : 9223372036854775807 < upN a k
        · go_wp2
          go_ret2
          exact ⟨ret_pairI (by
            unfold shlR
            rw [if_neg]
            intro hh
            have hm := upN_mono ha.1 (k := k + 1) (n := n.toNat) (by omega)
            rw [hs.out] at hm
            unfold upN at hm h2
            omega), rfl⟩
        · go_wp2
          go_round
          case rel => exact ⟨k + 1, by omega, by go_num, by rw [hs.out], by rw [hs.out]; omega⟩
          case measure => simp [intOf]; omega
      · go_wp2
        go_ret2
        have hkn : n.toNat = k := by omega
        exact ⟨ret_pairI (by unfold shlR; rw [hkn, if_pos ⟨by omega, hu⟩]; rfl), rfl⟩

theorem refShr_any (a n : Int) (ha : W64 a) (hn : W64 n) (w : World) :
    Calls Try.prog 28 #[.int .u64 a, .int .u64 n] w fun e w' => e = pairOf (shrR a n) ∧ w = w' := by
  obtain ⟨n1, n2⟩ := hn
  by_cases h63 : 63 < n
  · go_enter Try.func28, Try.ntmps28
    go_wp2
    go_ret2
    exact ⟨ret_pairI (by unfold shrR; rw [if_neg (by omega)]), rfl⟩
  · go_enter Try.func28, Try.ntmps28
    go_wp2_with fail
    go_loop [0, 6] (fun m i => ∃ k : Nat, k ≤ n.toNat ∧ i = .int .u64 k ∧ m = .int .u64 (downN a k)) (fun _ i => n.toNat - (intOf i).toNat)
    case atStart => exact ⟨0, by omega, rfl, by simp [downN]⟩
    case round =>
      obtain ⟨k, hk, rfl, rfl⟩ := hrel
      obtain ⟨hl, hu⟩ := downN_le ha k
      by_cases h1 : (k : Int) < n
      · have hs := Lib.hid (downN_succ a k)
        go_wp2
        go_round
        case rel => exact ⟨k + 1, by omega, by go_num, by rw [hs.out]⟩
        case measure => simp [intOf]; omega
      · go_wp2
        go_ret2
        have hkn : n.toNat = k := by omega
        exact ⟨ret_pairI (by unfold shrR; rw [hkn, if_pos (by omega)]; rfl), rfl⟩

end Go.Proofs.Ytoengahfkfmfeaa
