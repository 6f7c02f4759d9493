/- Contracts of package word (layer 1): products and shifts. -/
import Derived.Test.YtoengahfkfmfeaaWordA
set_option linter.unusedVariables false
set_option linter.unusedSimpArgs false
namespace Go.Proofs.Ytoengahfkfmfeaa
open Go.ChangeShapes Go.WideShapes Go.ChangeAt Go.RowKit

theorem M64.maskN (a : Nat) (ha : a < 18446744073709551616) : bits .and .u64 (a : Int) 4294967295 = ((a % 4294967296 : Nat) : Int) := by
  have h := bits_and_u64_nat a 4294967295 ha (by omega)
  have e : a &&& 4294967295 = a % 4294967296 := Nat.and_two_pow_sub_one_eq_mod a 32
  rw [e] at h
  exact h
theorem M64.divN (a : Nat) : (a : Int) / 4294967296 = ((a / 4294967296 : Nat) : Int) := by omega
theorem M64.mulN (a b : Nat) : (a : Int) * (b : Int) = ((a * b : Nat) : Int) := (Int.natCast_mul a b).symm
theorem M64.addN (a b : Nat) : (a : Int) + (b : Int) = ((a + b : Nat) : Int) := (Int.natCast_add a b).symm
theorem M64.wrapN (a : Nat) (ha : a < 18446744073709551616) : IntKind.u64.wrap (a : Int) = (a : Int) := by rw [IntKind.wrap_u64]; omega
theorem M64.wrapM (a : Nat) : IntKind.u64.wrap (a : Int) = ((a % 18446744073709551616 : Nat) : Int) := by rw [IntKind.wrap_u64]; omega

set_option maxHeartbeats 1000000 in
theorem Mul64_nat (x y : Nat) (hx : x < 18446744073709551616) (hy : y < 18446744073709551616) (w : World) :
    Calls Try.prog 60 #[.int .u64 x, .int .u64 y] w fun e w' => e = .returned (.tuple #[.int .u64 ((x * y / 18446744073709551616 : Nat) : Int), .int .u64 ((x * y % 18446744073709551616 : Nat) : Int)]) ∧ w = w' := by
  obtain ⟨bd, bt, bw, hhi⟩ := Lib.mul64_hi x y hx hy
  have ba := Lib.half_mul_le (a := x / 4294967296) (b := y / 4294967296) (by omega) (by omega)
  have bb := Lib.half_mul_le (a := x / 4294967296) (b := y % 4294967296) (by omega) (by omega)
  have bc := Lib.half_mul_le (a := x % 4294967296) (b := y / 4294967296) (by omega) (by omega)
  have ba' : x / 4294967296 * (y / 4294967296) < 18446744073709551616 := by omega
  have bb' : x / 4294967296 * (y % 4294967296) < 18446744073709551616 := by omega
  have bc' : x % 4294967296 * (y / 4294967296) < 18446744073709551616 := by omega
  have bh1 : x / 4294967296 * (y / 4294967296) + (x / 4294967296 * (y % 4294967296) + x % 4294967296 * (y % 4294967296) / 4294967296) / 4294967296 < 18446744073709551616 := by omega
  have bh : x / 4294967296 * (y / 4294967296) + (x / 4294967296 * (y % 4294967296) + x % 4294967296 * (y % 4294967296) / 4294967296) / 4294967296 + ((x / 4294967296 * (y % 4294967296) + x % 4294967296 * (y % 4294967296) / 4294967296) % 4294967296 + x % 4294967296 * (y / 4294967296)) / 4294967296 < 18446744073709551616 := by omega
  go_enter Try.func60, Try.ntmps60
  go_wp2
  simp only [M64.maskN x hx, M64.maskN y hy, M64.divN, M64.mulN, M64.addN, M64.wrapN _ bd, M64.wrapN _ bb', M64.wrapN _ bt, M64.maskN _ bt, M64.wrapN _ bc', M64.wrapN _ bw, M64.wrapN _ ba', M64.wrapN _ bh1, M64.wrapN _ bh, M64.wrapM (x * y)]
  rw [hhi]
  go_ret2
  exact ⟨rfl, rfl⟩

/-- The two halves of a product of words. -/
theorem Mul64_any (a b : Int) (ha : W64 a) (hb : W64 b) (w : World) :
    Calls Try.prog 60 #[.int .u64 a, .int .u64 b] w fun e w' => e = .returned (.tuple #[.int .u64 (a * b / 18446744073709551616), .int .u64 (a * b % 18446744073709551616)]) ∧ w = w' := by
  obtain ⟨a1, a2⟩ := ha; obtain ⟨b1, b2⟩ := hb
  obtain ⟨x, rfl⟩ := Int.eq_ofNat_of_zero_le a1
  obtain ⟨y, rfl⟩ := Int.eq_ofNat_of_zero_le b1
  have e1 : ((x * y / 18446744073709551616 : Nat) : Int) = (x : Int) * (y : Int) / 18446744073709551616 := by simp
  have e2 : ((x * y % 18446744073709551616 : Nat) : Int) = (x : Int) * (y : Int) % 18446744073709551616 := by simp
  rw [← e1, ← e2]
  exact Mul64_nat x y (by omega) (by omega) w

theorem Mul_ok (a b : Int) (ha : W64 a) (hb : W64 b) (h : a * b ≤ 18446744073709551615) (w : World) :
    Calls Try.prog 37 #[.int .u64 a, .int .u64 b] w fun e w' => e = .returned (.tuple #[.int .u64 (a * b), .int .i64 0]) ∧ w = w' := by
  have hp : 0 ≤ a * b := Int.mul_nonneg ha.1 hb.1
  have e1 : a * b / 18446744073709551616 = 0 := by omega
  have e2 : a * b % 18446744073709551616 = a * b := by omega
  have c := Mul64_any a b ha hb w
  rw [e1, e2] at c
  have C := Lib.hid c
  clear c e1 e2
  go_enter Try.func37, Try.ntmps37
  go_wp2_with (refine C.out.mono ?_; rintro e w' ⟨rfl, rfl⟩)
  go_ret2
  exact ⟨rfl, rfl⟩

theorem Mul_no (a b : Int) (ha : W64 a) (hb : W64 b) (h : 18446744073709551615 < a * b) (w : World) :
    Calls Try.prog 37 #[.int .u64 a, .int .u64 b] w fun e w' => e = .returned (.tuple #[.int .u64 0, .int .i64 5]) ∧ w = w' := by
  have e1 : 0 < a * b / 18446744073709551616 := by omega
  have c := Mul64_any a b ha hb w
  have C := Lib.hid c
  clear c
  generalize a * b / 18446744073709551616 = q at C e1
  generalize a * b % 18446744073709551616 = r at C
  have e2 : (q != 0) = true := by rw [bne_iff_ne]; omega
  clear h
  go_enter Try.func37, Try.ntmps37
  go_wp2_with (refine C.out.mono ?_; rintro e w' ⟨rfl, rfl⟩)
  go_ret2
  exact ⟨rfl, rfl⟩

theorem Shl_far (a n : Int) (ha : W64 a) (h : 63 < n) (w : World) :
    Calls Try.prog 40 #[.int .u64 a, .int .u64 n] w fun e w' => e = .returned (.tuple #[.int .u64 0, .int .i64 5]) ∧ w = w' := by
  have h1 : 64 ≤ n := by omega
  go_enter Try.func40, Try.ntmps40
  go_wp2
  go_ret2
  exact ⟨rfl, rfl⟩

theorem pow_pos (n : Nat) : 0 < (2 : Int) ^ n := Int.pow_pos (by decide)

theorem Shl_ok (a n : Int) (ha : W64 a) (h0 : 0 ≤ n) (h1 : n ≤ 63) (h : a * 2 ^ n.toNat ≤ 18446744073709551615) (w : World) :
    Calls Try.prog 40 #[.int .u64 a, .int .u64 n] w fun e w' => e = .returned (.tuple #[.int .u64 (a * 2 ^ n.toNat), .int .i64 0]) ∧ w = w' := by
  obtain ⟨a1, a2⟩ := ha
  have hp := pow_pos n.toNat
  have hq : 0 ≤ a * 2 ^ n.toNat := Int.mul_nonneg a1 (by omega)
  have e1 : IntKind.u64.wrap (a * 2 ^ n.toNat) = a * 2 ^ n.toNat := by rw [IntKind.wrap_u64]; omega
  have e2 : a * 2 ^ n.toNat / 2 ^ n.toNat = a := Int.mul_ediv_cancel _ (by omega)
  have h2 : ¬ 64 ≤ n := by omega
  clear h hq hp
  go_enter Try.func40, Try.ntmps40
  go_wp2
  go_ret2
  exact ⟨rfl, rfl⟩

theorem Shl_no (a n : Int) (ha : W64 a) (h0 : 0 ≤ n) (h1 : n ≤ 63) (h : 18446744073709551615 < a * 2 ^ n.toNat) (w : World) :
    Calls Try.prog 40 #[.int .u64 a, .int .u64 n] w fun e w' => e = .returned (.tuple #[.int .u64 0, .int .i64 5]) ∧ w = w' := by
  obtain ⟨a1, a2⟩ := ha
  have hp := pow_pos n.toNat
  have e2 : (IntKind.u64.wrap (a * 2 ^ n.toNat) / 2 ^ n.toNat != a) = true := by
    rw [bne_iff_ne, IntKind.wrap_u64]
    intro he
    have g1 : a * 2 ^ n.toNat % 18446744073709551616 < 18446744073709551616 := by omega
    have g3 := Int.lt_mul_ediv_self_add (x := a * 2 ^ n.toNat % 18446744073709551616) hp
    have g4 := Int.mul_ediv_self_le (x := a * 2 ^ n.toNat % 18446744073709551616) (k := 2 ^ n.toNat) (by omega)
    rw [he, Int.mul_comm] at g4
    omega
  have h2 : ¬ 64 ≤ n := by omega
  clear h hp
  go_enter Try.func40, Try.ntmps40
  go_wp2
  go_ret2
  exact ⟨rfl, rfl⟩

theorem Shr_far (a n : Int) (ha : W64 a) (h : 63 < n) (w : World) :
    Calls Try.prog 41 #[.int .u64 a, .int .u64 n] w fun e w' => e = .returned (.tuple #[.int .u64 0, .int .i64 5]) ∧ w = w' := by
  have h1 : 64 ≤ n := by omega
  go_enter Try.func41, Try.ntmps41
  go_wp2
  go_ret2
  exact ⟨rfl, rfl⟩

theorem Shr_ok (a n : Int) (ha : W64 a) (h0 : 0 ≤ n) (h1 : n ≤ 63) (w : World) :
    Calls Try.prog 41 #[.int .u64 a, .int .u64 n] w fun e w' => e = .returned (.tuple #[.int .u64 (a / 2 ^ n.toNat), .int .i64 0]) ∧ w = w' := by
  have h2 : ¬ 64 ≤ n := by omega
  go_enter Try.func41, Try.ntmps41
  go_wp2
  go_ret2
  exact ⟨rfl, rfl⟩

end Go.Proofs.Ytoengahfkfmfeaa
