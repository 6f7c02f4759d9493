/- Contracts of package word (layer 1): each function returns the plain Lean function's numbers, and leaves the world alone. · Contracts of package word (layer 1): products and shifts. · Contracts of package word (layer 1): each function whole, Mask, Fits, Truth and Op. -/
import Derived.Test.YtomimkgaelkaoaaGreatDoorRows
import Derived.Test.YtomimkgaelkaoaaGreatDoorC12WordP
import Derived.WalkKit
import Derived.ProofKit
import Derived.OpenShut
import Derived.WalkLawsBesides
import Derived.WalkSpells
import Derived.Laws.Externs
import Derived.Lib.Mul64
import Derived.Laws.Bits64b
import Derived.Lib.Hide
import Derived.Outline
set_option linter.unusedVariables false
set_option linter.unusedSimpArgs false
namespace Go.Proofs.YtomimkgaelkaoaaGreatDoor
open Go.Lib (hid)
open Go.ChangeShapes Go.WideShapes Go.ChangeAt Go.RowKit
theorem add64_0 (x y : Int) (hx : 0 ≤ x) (hy : 0 ≤ y) (w : World) : (callFunc 219 #[.int .u64 x, .int .u64 y, .int .u64 0]).run Tryz.prog w =
  .ok (.value (.tuple #[.int .u64 ((x + y) % 18446744073709551616), .int .u64 ((x + y) / 18446744073709551616)])) w := by
 rw [run_callFunc_extern Tryz.func219 (by kernel_rfl) (by kernel_rfl) (by kernel_rfl) (e := add64Entry) (by kernel_rfl), run_add64 x y 0 hx hy (by omega) (by omega)]
 simp only [Result.andThen, Int.add_zero]
theorem Add_ok (a b : Int) (ha : W64 a) (hb : W64 b) (h : a + b ≤ 18446744073709551615) (w : World) :
  Calls Tryz.prog 156 #[.int .u64 a, .int .u64 b] w fun e w' => e = .returned (.tuple #[.int .u64 (a + b), .int .i64 0]) ∧ w = w' := by
 obtain ⟨a1, a2⟩ := ha; obtain ⟨b1, b2⟩ := hb
 have e1 : (a + b) % 18446744073709551616 = a + b := by omega
 have e2 : (a + b) / 18446744073709551616 = 0 := by omega
 have e3 := fun w => add64_0 a b a1 b1 w
 simp only [e1, e2] at e3
 clear e1 e2
 have E3 := hid e3
 clear e3
 go_enter Tryz.func156, Tryz.ntmps156
 go_wp2_with (simp only [E3.out])
 go_ret2
 exact ⟨rfl, rfl⟩
theorem Add_no (a b : Int) (ha : W64 a) (hb : W64 b) (h : 18446744073709551615 < a + b) (w : World) :
  Calls Tryz.prog 156 #[.int .u64 a, .int .u64 b] w fun e w' => e = .returned (.tuple #[.int .u64 0, .int .i64 5]) ∧ w = w' := by
 obtain ⟨a1, a2⟩ := ha; obtain ⟨b1, b2⟩ := hb
 have e2 : (a + b) / 18446744073709551616 = 1 := by omega
 have e3 := fun w => add64_0 a b a1 b1 w
 simp only [e2] at e3
 clear e2
 have E3 := hid e3
 clear e3
 go_enter Tryz.func156, Tryz.ntmps156
 go_wp2_with (simp only [E3.out])
 go_ret2
 exact ⟨rfl, rfl⟩
theorem Sub_ok (a b : Int) (ha : W64 a) (hb : W64 b) (h : b ≤ a) (w : World) :
  Calls Tryz.prog 157 #[.int .u64 a, .int .u64 b] w fun e w' => e = .returned (.tuple #[.int .u64 (a - b), .int .i64 0]) ∧ w = w' := by
 obtain ⟨a1, a2⟩ := ha; obtain ⟨b1, b2⟩ := hb
 go_enter Tryz.func157, Tryz.ntmps157
 go_wp2
 go_ret2
 exact ⟨rfl, rfl⟩
theorem Sub_no (a b : Int) (ha : W64 a) (hb : W64 b) (h : a < b) (w : World) :
  Calls Tryz.prog 157 #[.int .u64 a, .int .u64 b] w fun e w' => e = .returned (.tuple #[.int .u64 0, .int .i64 5]) ∧ w = w' := by
 obtain ⟨a1, a2⟩ := ha; obtain ⟨b1, b2⟩ := hb
 go_enter Tryz.func157, Tryz.ntmps157
 go_wp2
 go_ret2
 exact ⟨rfl, rfl⟩
theorem Div_ok (a b : Int) (ha : W64 a) (hb : W64 b) (h : 0 < b) (w : World) :
  Calls Tryz.prog 159 #[.int .u64 a, .int .u64 b] w fun e w' => e = .returned (.tuple #[.int .u64 (a / b), .int .i64 0]) ∧ w = w' := by
 obtain ⟨a1, a2⟩ := ha; obtain ⟨b1, b2⟩ := hb
 have h0 : (b == 0) = false := by rw [beq_eq_false_iff_ne]; omega
 have h1 : 0 ≤ a / b := Int.ediv_nonneg a1 b1
 have h2 : a / b ≤ 18446744073709551615 := Int.le_trans (Int.ediv_le_self b a1) a2
 go_enter Tryz.func159, Tryz.ntmps159
 go_wp2
 go_ret2
 exact ⟨rfl, rfl⟩
theorem Div_no (a : Int) (w : World) :
  Calls Tryz.prog 159 #[.int .u64 a, .int .u64 0] w fun e w' => e = .returned (.tuple #[.int .u64 0, .int .i64 6]) ∧ w = w' := by
 go_enter Tryz.func159, Tryz.ntmps159
 go_wp2
 go_ret2
 exact ⟨rfl, rfl⟩
theorem Mod_ok (a b : Int) (ha : W64 a) (hb : W64 b) (h : 0 < b) (w : World) :
  Calls Tryz.prog 160 #[.int .u64 a, .int .u64 b] w fun e w' => e = .returned (.tuple #[.int .u64 (a % b), .int .i64 0]) ∧ w = w' := by
 obtain ⟨a1, a2⟩ := ha; obtain ⟨b1, b2⟩ := hb
 have h0 : (b == 0) = false := by rw [beq_eq_false_iff_ne]; omega
 have h1 : 0 ≤ a % b := Int.emod_nonneg _ (by omega)
 have h2 : a % b < b := Int.emod_lt_of_pos _ h
 go_enter Tryz.func160, Tryz.ntmps160
 go_wp2
 go_ret2
 exact ⟨rfl, rfl⟩
theorem Mod_no (a : Int) (w : World) :
  Calls Tryz.prog 160 #[.int .u64 a, .int .u64 0] w fun e w' => e = .returned (.tuple #[.int .u64 0, .int .i64 6]) ∧ w = w' := by
 go_enter Tryz.func160, Tryz.ntmps160
 go_wp2
 go_ret2
 exact ⟨rfl, rfl⟩
end Go.Proofs.YtomimkgaelkaoaaGreatDoor
namespace Go.Proofs.YtomimkgaelkaoaaGreatDoor
open Go.Lib (hid)
open Go.ChangeShapes Go.WideShapes Go.ChangeAt Go.RowKit
theorem M64.maskN (a : Nat) (ha : a < 18446744073709551616) : bits .and .u64 (a : Int) 4294967295 = ((a % 4294967296 : Nat) : Int) := by
 have h := bits_and_u64_nat a 4294967295 ha (by omega)
 have e : a &&& 4294967295 = a % 4294967296 := Nat.and_two_pow_sub_one_eq_mod a 32
 rw [e] at h
 exact h
theorem M64.divN (a : Nat) : (a : Int) / 4294967296 = ((a / 4294967296 : Nat) : Int) := by omega
theorem M64.mulN (a b : Nat) : (a : Int) * (b : Int) = ((a * b : Nat) : Int) := (Int.natCast_mul a b).symm
theorem M64.addN (a b : Nat) : (a : Int) + (b : Int) = ((a + b : Nat) : Int) := (Int.natCast_add a b).symm
theorem M64.wrapN (a : Nat) (ha : a < 18446744073709551616) : IntKind.u64.wrap (a : Int) = (a : Int) := by rw [IntKind.wrap_u64]; omega
theorem M64.wrapM (a : Nat) : IntKind.u64.wrap (a : Int) = ((a % 18446744073709551616 : Nat) : Int) := by rw [IntKind.wrap_u64]; omega
set_option maxHeartbeats 1000000 in
theorem Mul64_nat (x y : Nat) (hx : x < 18446744073709551616) (hy : y < 18446744073709551616) (w : World) :
  Calls Tryz.prog 220 #[.int .u64 x, .int .u64 y] w fun e w' => e = .returned (.tuple #[.int .u64 ((x * y / 18446744073709551616 : Nat) : Int), .int .u64 ((x * y % 18446744073709551616 : Nat) : Int)]) ∧ w = w' := by
 obtain ⟨bd, bt, bw, hhi⟩ := Lib.mul64_hi x y hx hy
 have ba := Lib.half_mul_le (a := x / 4294967296) (b := y / 4294967296) (by omega) (by omega)
 have bb := Lib.half_mul_le (a := x / 4294967296) (b := y % 4294967296) (by omega) (by omega)
 have bc := Lib.half_mul_le (a := x % 4294967296) (b := y / 4294967296) (by omega) (by omega)
 have ba' : x / 4294967296 * (y / 4294967296) < 18446744073709551616 := by omega
 have bb' : x / 4294967296 * (y % 4294967296) < 18446744073709551616 := by omega
 have bc' : x % 4294967296 * (y / 4294967296) < 18446744073709551616 := by omega
 have bh1 : x / 4294967296 * (y / 4294967296) + (x / 4294967296 * (y % 4294967296) + x % 4294967296 * (y % 4294967296) / 4294967296) / 4294967296 < 18446744073709551616 := by omega
 have bh : x / 4294967296 * (y / 4294967296) + (x / 4294967296 * (y % 4294967296) + x % 4294967296 * (y % 4294967296) / 4294967296) / 4294967296 + ((x / 4294967296 * (y % 4294967296) + x % 4294967296 * (y % 4294967296) / 4294967296) % 4294967296 + x % 4294967296 * (y / 4294967296)) / 4294967296 < 18446744073709551616 := by omega
 go_enter Tryz.func220, Tryz.ntmps220
 go_wp2
 simp only [M64.maskN x hx, M64.maskN y hy, M64.divN, M64.mulN, M64.addN, M64.wrapN _ bd, M64.wrapN _ bb', M64.wrapN _ bt, M64.maskN _ bt, M64.wrapN _ bc', M64.wrapN _ bw, M64.wrapN _ ba', M64.wrapN _ bh1, M64.wrapN _ bh, M64.wrapM (x * y)]
 rw [hhi]
 go_ret2
 exact ⟨rfl, rfl⟩
theorem Mul64_any (a b : Int) (ha : W64 a) (hb : W64 b) (w : World) :
  Calls Tryz.prog 220 #[.int .u64 a, .int .u64 b] w fun e w' => e = .returned (.tuple #[.int .u64 (a * b / 18446744073709551616), .int .u64 (a * b % 18446744073709551616)]) ∧ w = w' := by
 obtain ⟨a1, a2⟩ := ha; obtain ⟨b1, b2⟩ := hb
 obtain ⟨x, rfl⟩ := Int.eq_ofNat_of_zero_le a1
 obtain ⟨y, rfl⟩ := Int.eq_ofNat_of_zero_le b1
 have e1 : ((x * y / 18446744073709551616 : Nat) : Int) = (x : Int) * (y : Int) / 18446744073709551616 := by simp
 have e2 : ((x * y % 18446744073709551616 : Nat) : Int) = (x : Int) * (y : Int) % 18446744073709551616 := by simp
 rw [← e1, ← e2]
 exact Mul64_nat x y (by omega) (by omega) w
theorem Mul_ok (a b : Int) (ha : W64 a) (hb : W64 b) (h : a * b ≤ 18446744073709551615) (w : World) :
  Calls Tryz.prog 158 #[.int .u64 a, .int .u64 b] w fun e w' => e = .returned (.tuple #[.int .u64 (a * b), .int .i64 0]) ∧ w = w' := by
 have hp : 0 ≤ a * b := Int.mul_nonneg ha.1 hb.1
 have e1 : a * b / 18446744073709551616 = 0 := by omega
 have e2 : a * b % 18446744073709551616 = a * b := by omega
 have c := Mul64_any a b ha hb w
 rw [e1, e2] at c
 have C := hid c
 clear c e1 e2
 go_enter Tryz.func158, Tryz.ntmps158
 go_wp2_with (refine C.out.mono ?_; rintro e w' ⟨rfl, rfl⟩)
 go_ret2
 exact ⟨rfl, rfl⟩
theorem Mul_no (a b : Int) (ha : W64 a) (hb : W64 b) (h : 18446744073709551615 < a * b) (w : World) :
  Calls Tryz.prog 158 #[.int .u64 a, .int .u64 b] w fun e w' => e = .returned (.tuple #[.int .u64 0, .int .i64 5]) ∧ w = w' := by
 have e1 : 0 < a * b / 18446744073709551616 := by omega
 have c := Mul64_any a b ha hb w
 have C := hid c
 clear c
 generalize a * b / 18446744073709551616 = q at C e1
 generalize a * b % 18446744073709551616 = r at C
 have e2 : (q != 0) = true := by rw [bne_iff_ne]; omega
 clear h
 go_enter Tryz.func158, Tryz.ntmps158
 go_wp2_with (refine C.out.mono ?_; rintro e w' ⟨rfl, rfl⟩)
 go_ret2
 exact ⟨rfl, rfl⟩
theorem Shl_far (a n : Int) (ha : W64 a) (h : 63 < n) (w : World) :
  Calls Tryz.prog 161 #[.int .u64 a, .int .u64 n] w fun e w' => e = .returned (.tuple #[.int .u64 0, .int .i64 5]) ∧ w = w' := by
 have h1 : 64 ≤ n := by omega
 go_enter Tryz.func161, Tryz.ntmps161
 go_wp2
 go_ret2
 exact ⟨rfl, rfl⟩
theorem pow_pos (n : Nat) : 0 < (2 : Int) ^ n := Int.pow_pos (by decide)
theorem Shl_ok (a n : Int) (ha : W64 a) (h0 : 0 ≤ n) (h1 : n ≤ 63) (h : a * 2 ^ n.toNat ≤ 18446744073709551615) (w : World) :
  Calls Tryz.prog 161 #[.int .u64 a, .int .u64 n] w fun e w' => e = .returned (.tuple #[.int .u64 (a * 2 ^ n.toNat), .int .i64 0]) ∧ w = w' := by
 obtain ⟨a1, a2⟩ := ha
 have hp := pow_pos n.toNat
 have hq : 0 ≤ a * 2 ^ n.toNat := Int.mul_nonneg a1 (by omega)
 have e1 : IntKind.u64.wrap (a * 2 ^ n.toNat) = a * 2 ^ n.toNat := by rw [IntKind.wrap_u64]; omega
 have e2 : a * 2 ^ n.toNat / 2 ^ n.toNat = a := Int.mul_ediv_cancel _ (by omega)
 have h2 : ¬ 64 ≤ n := by omega
 clear h hq hp
 go_enter Tryz.func161, Tryz.ntmps161
 go_wp2
 go_ret2
 exact ⟨rfl, rfl⟩
theorem Shl_no (a n : Int) (ha : W64 a) (h0 : 0 ≤ n) (h1 : n ≤ 63) (h : 18446744073709551615 < a * 2 ^ n.toNat) (w : World) :
  Calls Tryz.prog 161 #[.int .u64 a, .int .u64 n] w fun e w' => e = .returned (.tuple #[.int .u64 0, .int .i64 5]) ∧ w = w' := by
 obtain ⟨a1, a2⟩ := ha
 have hp := pow_pos n.toNat
 have e2 : (IntKind.u64.wrap (a * 2 ^ n.toNat) / 2 ^ n.toNat != a) = true := by
  rw [bne_iff_ne, IntKind.wrap_u64]
  intro he
  have g1 : a * 2 ^ n.toNat % 18446744073709551616 < 18446744073709551616 := by omega
  have g3 := Int.lt_mul_ediv_self_add (x := a * 2 ^ n.toNat % 18446744073709551616) hp
  have g4 := Int.mul_ediv_self_le (x := a * 2 ^ n.toNat % 18446744073709551616) (k := 2 ^ n.toNat) (by omega)
  rw [he, Int.mul_comm] at g4
  omega
 have h2 : ¬ 64 ≤ n := by omega
 clear h hp
 go_enter Tryz.func161, Tryz.ntmps161
 go_wp2
 go_ret2
 exact ⟨rfl, rfl⟩
theorem Shr_far (a n : Int) (ha : W64 a) (h : 63 < n) (w : World) :
  Calls Tryz.prog 162 #[.int .u64 a, .int .u64 n] w fun e w' => e = .returned (.tuple #[.int .u64 0, .int .i64 5]) ∧ w = w' := by
 have h1 : 64 ≤ n := by omega
 go_enter Tryz.func162, Tryz.ntmps162
 go_wp2
 go_ret2
 exact ⟨rfl, rfl⟩
theorem Shr_ok (a n : Int) (ha : W64 a) (h0 : 0 ≤ n) (h1 : n ≤ 63) (w : World) :
  Calls Tryz.prog 162 #[.int .u64 a, .int .u64 n] w fun e w' => e = .returned (.tuple #[.int .u64 (a / 2 ^ n.toNat), .int .i64 0]) ∧ w = w' := by
 have h2 : ¬ 64 ≤ n := by omega
 go_enter Tryz.func162, Tryz.ntmps162
 go_wp2
 go_ret2
 exact ⟨rfl, rfl⟩
end Go.Proofs.YtomimkgaelkaoaaGreatDoor
namespace Go.Proofs.YtomimkgaelkaoaaGreatDoor
open Go.Lib (hid)
open Go.ChangeShapes Go.WideShapes Go.ChangeAt Go.RowKit
abbrev pairOf (r : Int × Int) : Ending := .returned (.tuple #[.int .u64 r.1, .int .i64 r.2])
theorem Add_any (a b : Int) (ha : W64 a) (hb : W64 b) (w : World) :
  Calls Tryz.prog 156 #[.int .u64 a, .int .u64 b] w fun e w' => e = pairOf (addR a b) ∧ w = w' := by
 unfold addR
 split
 ·exact Add_ok a b ha hb ‹_› w
 ·exact Add_no a b ha hb (by omega) w
theorem Sub_any (a b : Int) (ha : W64 a) (hb : W64 b) (w : World) :
  Calls Tryz.prog 157 #[.int .u64 a, .int .u64 b] w fun e w' => e = pairOf (subR a b) ∧ w = w' := by
 unfold subR
 split
 ·exact Sub_ok a b ha hb ‹_› w
 ·exact Sub_no a b ha hb (by omega) w
theorem Mul_any (a b : Int) (ha : W64 a) (hb : W64 b) (w : World) :
  Calls Tryz.prog 158 #[.int .u64 a, .int .u64 b] w fun e w' => e = pairOf (mulR a b) ∧ w = w' := by
 unfold mulR
 split
 ·exact Mul_ok a b ha hb ‹_› w
 ·exact Mul_no a b ha hb (by omega) w
theorem Div_any (a b : Int) (ha : W64 a) (hb : W64 b) (w : World) :
  Calls Tryz.prog 159 #[.int .u64 a, .int .u64 b] w fun e w' => e = pairOf (divR a b) ∧ w = w' := by
 unfold divR
 split
 ·rename_i h; subst h; exact Div_no a w
 ·exact Div_ok a b ha hb (by have := hb.1; omega) w
theorem Mod_any (a b : Int) (ha : W64 a) (hb : W64 b) (w : World) :
  Calls Tryz.prog 160 #[.int .u64 a, .int .u64 b] w fun e w' => e = pairOf (modR a b) ∧ w = w' := by
 unfold modR
 split
 ·rename_i h; subst h; exact Mod_no a w
 ·exact Mod_ok a b ha hb (by have := hb.1; omega) w
theorem Shl_any (a b : Int) (ha : W64 a) (hb : W64 b) (w : World) :
  Calls Tryz.prog 161 #[.int .u64 a, .int .u64 b] w fun e w' => e = pairOf (shlR a b) ∧ w = w' := by
 unfold shlR
 split
 ·rename_i h; exact Shl_ok a b ha hb.1 h.1 h.2 w
 ·by_cases h : b ≤ 63
  ·exact Shl_no a b ha hb.1 h (by omega) w
  ·exact Shl_far a b ha (by omega) w
theorem Shr_any (a b : Int) (ha : W64 a) (hb : W64 b) (w : World) :
  Calls Tryz.prog 162 #[.int .u64 a, .int .u64 b] w fun e w' => e = pairOf (shrR a b) ∧ w = w' := by
 unfold shrR
 split
 ·exact Shr_ok a b ha hb.1 ‹_› w
 ·exact Shr_far a b ha (by omega) w
theorem Truth_any (b : Bool) (w : World) :
  Calls Tryz.prog 110 #[.bool b] w fun e w' => e = .returned (.int .u64 (truthV b)) ∧ w = w' := by
 cases b
 all_goals
  go_enter Tryz.func110, Tryz.ntmps110
  go_wp2
  go_ret
  exact ⟨rfl, rfl⟩
theorem and_nat {a b : Int} (ha : W64 a) (hb : W64 b) : bits .and .u64 a b = andV a b := by
 obtain ⟨a1, a2⟩ := ha; obtain ⟨b1, b2⟩ := hb
 obtain ⟨x, rfl⟩ := Int.eq_ofNat_of_zero_le a1
 obtain ⟨y, rfl⟩ := Int.eq_ofNat_of_zero_le b1
 exact bits_and_u64_nat x y (by omega) (by omega)
theorem or_nat {a b : Int} (ha : W64 a) (hb : W64 b) : bits .or .u64 a b = orV a b := by
 obtain ⟨a1, a2⟩ := ha; obtain ⟨b1, b2⟩ := hb
 obtain ⟨x, rfl⟩ := Int.eq_ofNat_of_zero_le a1
 obtain ⟨y, rfl⟩ := Int.eq_ofNat_of_zero_le b1
 exact bits_or_u64_nat x y (by omega) (by omega)
theorem ret_pair {r : Int × Int} {x y : Int} (h : r = (x, y)) : (Ending.returned (.tuple #[.int .u64 x, .int .i64 y])) = pairOf r := by subst h; rfl
theorem ret_same {r q : Int × Int} (h : q = r) : pairOf r = pairOf q := by subst h; rfl
set_option maxHeartbeats 2000000 in
theorem Op_any (s : ByteArray) (a b : Int) (ha : W64 a) (hb : W64 b) (w : World) :
  Calls Tryz.prog 111 #[.string s, .int .u64 a, .int .u64 b] w fun e w' => e = pairOf (opR s.toList a b) ∧ w = w' := by
 have HA := hid (and_nat ha hb)
 have HO := hid (or_nat ha hb)
 go_enter Tryz.func111, Tryz.ntmps111
 go_wp2_with (first | (go_at_call 110; refine (Truth_any _ _).mono ?_; rintro e w' ⟨rfl, rfl⟩) | (go_at_call 156; refine (Add_any _ _ ha hb _).mono ?_; rintro e w' ⟨rfl, rfl⟩) | (go_at_call 157; refine (Sub_any _ _ ha hb _).mono ?_; rintro e w' ⟨rfl, rfl⟩) | (go_at_call 158; refine (Mul_any _ _ ha hb _).mono ?_; rintro e w' ⟨rfl, rfl⟩) | (go_at_call 159; refine (Div_any _ _ ha hb _).mono ?_; rintro e w' ⟨rfl, rfl⟩) | (go_at_call 160; refine (Mod_any _ _ ha hb _).mono ?_; rintro e w' ⟨rfl, rfl⟩) | (go_at_call 161; refine (Shl_any _ _ ha hb _).mono ?_; rintro e w' ⟨rfl, rfl⟩) | (go_at_call 162; refine (Shr_any _ _ ha hb _).mono ?_; rintro e w' ⟨rfl, rfl⟩))
 all_goals go_ret2
 all_goals first | exact ⟨ret_same (by simp only [opR, if_true, if_false, Bool.false_eq_true, *]), rfl⟩ | exact ⟨ret_pair (by have h0 : (a != 0) = true := bne_iff_ne.2 ‹¬ a = 0›; simp [opR, *]), rfl⟩ | exact ⟨ret_pair (by simp [opR, HA.out, HO.out, *]), rfl⟩
end Go.Proofs.YtomimkgaelkaoaaGreatDoor
