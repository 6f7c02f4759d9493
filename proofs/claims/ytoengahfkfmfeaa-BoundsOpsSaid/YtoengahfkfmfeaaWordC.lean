/- Contracts of package word (layer 1): each function whole, Mask, Fits, Truth and Op. -/
import Derived.Test.YtoengahfkfmfeaaWordB
set_option linter.unusedVariables false
set_option linter.unusedSimpArgs false
namespace Go.Proofs.Ytoengahfkfmfeaa
open Go.ChangeShapes Go.WideShapes Go.ChangeAt Go.RowKit

/-- 'returned the pair r'. -/
abbrev pairOf (r : Int × Int) : Ending := .returned (.tuple #[.int .u64 r.1, .int .i64 r.2])

theorem Add_any (a b : Int) (ha : W64 a) (hb : W64 b) (w : World) :
    Calls Try.prog 35 #[.int .u64 a, .int .u64 b] w fun e w' => e = pairOf (addR a b) ∧ w = w' := by
  unfold addR
  split
  · exact Add_ok a b ha hb ‹_› w
  · exact Add_no a b ha hb (by omega) w
theorem Sub_any (a b : Int) (ha : W64 a) (hb : W64 b) (w : World) :
    Calls Try.prog 36 #[.int .u64 a, .int .u64 b] w fun e w' => e = pairOf (subR a b) ∧ w = w' := by
  unfold subR
  split
  · exact Sub_ok a b ha hb ‹_› w
  · exact Sub_no a b ha hb (by omega) w
theorem Mul_any (a b : Int) (ha : W64 a) (hb : W64 b) (w : World) :
    Calls Try.prog 37 #[.int .u64 a, .int .u64 b] w fun e w' => e = pairOf (mulR a b) ∧ w = w' := by
  unfold mulR
  split
  · exact Mul_ok a b ha hb ‹_› w
  · exact Mul_no a b ha hb (by omega) w
theorem Div_any (a b : Int) (ha : W64 a) (hb : W64 b) (w : World) :
    Calls Try.prog 38 #[.int .u64 a, .int .u64 b] w fun e w' => e = pairOf (divR a b) ∧ w = w' := by
  unfold divR
  split
  · rename_i h; subst h; exact Div_no a w
  · exact Div_ok a b ha hb (by have := hb.1; omega) w
theorem Mod_any (a b : Int) (ha : W64 a) (hb : W64 b) (w : World) :
    Calls Try.prog 39 #[.int .u64 a, .int .u64 b] w fun e w' => e = pairOf (modR a b) ∧ w = w' := by
  unfold modR
  split
  · rename_i h; subst h; exact Mod_no a w
  · exact Mod_ok a b ha hb (by have := hb.1; omega) w
theorem Shl_any (a b : Int) (ha : W64 a) (hb : W64 b) (w : World) :
    Calls Try.prog 40 #[.int .u64 a, .int .u64 b] w fun e w' => e = pairOf (shlR a b) ∧ w = w' := by
  unfold shlR
  split
  · rename_i h; exact Shl_ok a b ha hb.1 h.1 h.2 w
  · by_cases h : b ≤ 63
    · exact Shl_no a b ha hb.1 h (by omega) w
    · exact Shl_far a b ha (by omega) w
theorem Shr_any (a b : Int) (ha : W64 a) (hb : W64 b) (w : World) :
    Calls Try.prog 41 #[.int .u64 a, .int .u64 b] w fun e w' => e = pairOf (shrR a b) ∧ w = w' := by
  unfold shrR
  split
  · exact Shr_ok a b ha hb.1 ‹_› w
  · exact Shr_far a b ha (by omega) w

theorem Truth_any (b : Bool) (w : World) :
    Calls Try.prog 42 #[.bool b] w fun e w' => e = .returned (.int .u64 (truthV b)) ∧ w = w' := by
  cases b
  all_goals
    go_enter Try.func42, Try.ntmps42
    go_wp2
    go_ret
    exact ⟨rfl, rfl⟩

theorem and_nat {a b : Int} (ha : W64 a) (hb : W64 b) : bits .and .u64 a b = andV a b := by
  obtain ⟨a1, a2⟩ := ha; obtain ⟨b1, b2⟩ := hb
  obtain ⟨x, rfl⟩ := Int.eq_ofNat_of_zero_le a1
  obtain ⟨y, rfl⟩ := Int.eq_ofNat_of_zero_le b1
  exact bits_and_u64_nat x y (by omega) (by omega)
theorem or_nat {a b : Int} (ha : W64 a) (hb : W64 b) : bits .or .u64 a b = orV a b := by
  obtain ⟨a1, a2⟩ := ha; obtain ⟨b1, b2⟩ := hb
  obtain ⟨x, rfl⟩ := Int.eq_ofNat_of_zero_le a1
  obtain ⟨y, rfl⟩ := Int.eq_ofNat_of_zero_le b1
  exact bits_or_u64_nat x y (by omega) (by omega)

theorem ret_pair {r : Int × Int} {x y : Int} (h : r = (x, y)) : (Ending.returned (.tuple #[.int .u64 x, .int .i64 y])) = pairOf r := by subst h; rfl
theorem ret_same {r q : Int × Int} (h : q = r) : pairOf r = pairOf q := by subst h; rfl

set_option maxHeartbeats 2000000 in
theorem Op_any (s : ByteArray) (a b : Int) (ha : W64 a) (hb : W64 b) (w : World) :
    Calls Try.prog 22 #[.string s, .int .u64 a, .int .u64 b] w fun e w' => e = pairOf (opR s.toList a b) ∧ w = w' := by
  have HA := Lib.hid (and_nat ha hb)
  have HO := Lib.hid (or_nat ha hb)
  go_enter Try.func22, Try.ntmps22
  go_wp2_with (first | (go_at_call 42; refine (Truth_any _ _).mono ?_; rintro e w' ⟨rfl, rfl⟩) | (go_at_call 35; refine (Add_any _ _ ha hb _).mono ?_; rintro e w' ⟨rfl, rfl⟩) | (go_at_call 36; refine (Sub_any _ _ ha hb _).mono ?_; rintro e w' ⟨rfl, rfl⟩) | (go_at_call 37; refine (Mul_any _ _ ha hb _).mono ?_; rintro e w' ⟨rfl, rfl⟩) | (go_at_call 38; refine (Div_any _ _ ha hb _).mono ?_; rintro e w' ⟨rfl, rfl⟩) | (go_at_call 39; refine (Mod_any _ _ ha hb _).mono ?_; rintro e w' ⟨rfl, rfl⟩) | (go_at_call 40; refine (Shl_any _ _ ha hb _).mono ?_; rintro e w' ⟨rfl, rfl⟩) | (go_at_call 41; refine (Shr_any _ _ ha hb _).mono ?_; rintro e w' ⟨rfl, rfl⟩))
  all_goals go_ret2
  all_goals first | exact ⟨ret_same (by simp only [opR, if_true, if_false, Bool.false_eq_true, *]), rfl⟩ | exact ⟨ret_pair (by have h0 : (a != 0) = true := bne_iff_ne.2 ‹¬ a = 0›; simp [opR, *]), rfl⟩ | exact ⟨ret_pair (by simp [opR, HA.out, HO.out, *]), rfl⟩
end Go.Proofs.Ytoengahfkfmfeaa
