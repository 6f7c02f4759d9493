/- Contracts of package word (layer 1): each function whole, Mask, Fits, Truth and Op. -/
import Derived.Test.YtejcpckkpgkgcaaWordB
namespace Go.Proofs.Ytejcpckkpgkgcaa
open Go.ChangeShapes Go.WideShapes Go.ChangeAt Go.RowKit
set_option linter.unusedVariables false

/-- 'returned the pair r'. -/
abbrev pairOf (r : Int × Int) : Ending := .returned (.tuple #[.int .u64 r.1, .int .i64 r.2])

theorem Add_any (a b : Int) (ha : W64 a) (hb : W64 b) (w : World) :
    Calls Try.prog 11 #[.int .u64 a, .int .u64 b] w fun e w' => e = pairOf (addR a b) ∧ w = w' := by
  unfold addR
  split
  · exact Add_ok a b ha hb ‹_› w
  · exact Add_no a b ha hb (by omega) w
theorem Sub_any (a b : Int) (ha : W64 a) (hb : W64 b) (w : World) :
    Calls Try.prog 21 #[.int .u64 a, .int .u64 b] w fun e w' => e = pairOf (subR a b) ∧ w = w' := by
  unfold subR
  split
  · exact Sub_ok a b ha hb ‹_› w
  · exact Sub_no a b ha hb (by omega) w
theorem Mul_any (a b : Int) (ha : W64 a) (hb : W64 b) (w : World) :
    Calls Try.prog 24 #[.int .u64 a, .int .u64 b] w fun e w' => e = pairOf (mulR a b) ∧ w = w' := by
  unfold mulR
  split
  · exact Mul_ok a b ha hb ‹_› w
  · exact Mul_no a b ha hb (by omega) w
theorem Div_any (a b : Int) (ha : W64 a) (hb : W64 b) (w : World) :
    Calls Try.prog 22 #[.int .u64 a, .int .u64 b] w fun e w' => e = pairOf (divR a b) ∧ w = w' := by
  unfold divR
  split
  · rename_i h; subst h; exact Div_no a w
  · exact Div_ok a b ha hb (by have := hb.1; omega) w
theorem Mod_any (a b : Int) (ha : W64 a) (hb : W64 b) (w : World) :
    Calls Try.prog 23 #[.int .u64 a, .int .u64 b] w fun e w' => e = pairOf (modR a b) ∧ w = w' := by
  unfold modR
  split
  · rename_i h; subst h; exact Mod_no a w
  · exact Mod_ok a b ha hb (by have := hb.1; omega) w
theorem Shl_any (a b : Int) (ha : W64 a) (hb : W64 b) (w : World) :
    Calls Try.prog 13 #[.int .u64 a, .int .u64 b] w fun e w' => e = pairOf (shlR a b) ∧ w = w' := by
  unfold shlR
  split
  · rename_i h; exact Shl_ok a b ha hb.1 h.1 h.2 w
  · by_cases h : b ≤ 63
    · exact Shl_no a b ha hb.1 h (by omega) w
    · exact Shl_far a b ha (by omega) w
theorem Shr_any (a b : Int) (ha : W64 a) (hb : W64 b) (w : World) :
    Calls Try.prog 15 #[.int .u64 a, .int .u64 b] w fun e w' => e = pairOf (shrR a b) ∧ w = w' := by
  unfold shrR
  split
  · exact Shr_ok a b ha hb.1 ‹_› w
  · exact Shr_far a b ha (by omega) w

theorem Truth_any (b : Bool) (w : World) :
    Calls Try.prog 20 #[.bool b] w fun e w' => e = .returned (.int .u64 (truthV b)) ∧ w = w' := by
  cases b
  all_goals
    go_enter Try.func20, Try.ntmps20
    go_wp2
    go_ret
    exact ⟨rfl, rfl⟩

theorem and_nat {a b : Int} (ha : W64 a) (hb : W64 b) : bits .and .u64 a b = andV a b := by
  obtain ⟨a1, a2⟩ := ha; obtain ⟨b1, b2⟩ := hb
  obtain ⟨x, rfl⟩ := Int.eq_ofNat_of_zero_le a1
  obtain ⟨y, rfl⟩ := Int.eq_ofNat_of_zero_le b1
  exact bits_and_u64_nat x y (by omega) (by omega)
theorem or_nat {a b : Int} (ha : W64 a) (hb : W64 b) : bits .or .u64 a b = orV a b := by
  obtain ⟨a1, a2⟩ := ha; obtain ⟨b1, b2⟩ := hb
  obtain ⟨x, rfl⟩ := Int.eq_ofNat_of_zero_le a1
  obtain ⟨y, rfl⟩ := Int.eq_ofNat_of_zero_le b1
  exact bits_or_u64_nat x y (by omega) (by omega)

theorem ret_pair {r : Int × Int} {x y : Int} (h : r = (x, y)) : (Ending.returned (.tuple #[.int .u64 x, .int .i64 y])) = pairOf r := by subst h; rfl
theorem ret_same {r q : Int × Int} (h : q = r) : pairOf r = pairOf q := by subst h; rfl

set_option maxHeartbeats 2000000 in
theorem Op_any (s : ByteArray) (a b : Int) (ha : W64 a) (hb : W64 b) (w : World) :
    Calls Try.prog 9 #[.string s, .int .u64 a, .int .u64 b] w fun e w' => e = pairOf (opR s.toList a b) ∧ w = w' := by
  have HA := Lib.hid (and_nat ha hb)
  have HO := Lib.hid (or_nat ha hb)
  go_enter Try.func9, Try.ntmps9
  go_wp2_with (first | (go_at_call 20; refine (Truth_any _ _).mono ?_; rintro e w' ⟨rfl, rfl⟩) | (go_at_call 11; refine (Add_any _ _ ha hb _).mono ?_; rintro e w' ⟨rfl, rfl⟩) | (go_at_call 21; refine (Sub_any _ _ ha hb _).mono ?_; rintro e w' ⟨rfl, rfl⟩) | (go_at_call 24; refine (Mul_any _ _ ha hb _).mono ?_; rintro e w' ⟨rfl, rfl⟩) | (go_at_call 22; refine (Div_any _ _ ha hb _).mono ?_; rintro e w' ⟨rfl, rfl⟩) | (go_at_call 23; refine (Mod_any _ _ ha hb _).mono ?_; rintro e w' ⟨rfl, rfl⟩) | (go_at_call 13; refine (Shl_any _ _ ha hb _).mono ?_; rintro e w' ⟨rfl, rfl⟩) | (go_at_call 15; refine (Shr_any _ _ ha hb _).mono ?_; rintro e w' ⟨rfl, rfl⟩))
  all_goals go_ret2
  all_goals first | exact ⟨ret_same (by simp only [opR, if_true, if_false, Bool.false_eq_true, *]), rfl⟩ | exact ⟨ret_pair (by have h0 : (a != 0) = true := bne_iff_ne.2 ‹¬ a = 0›; simp [opR, *]), rfl⟩ | exact ⟨ret_pair (by simp [opR, HA.out, HO.out, *]), rfl⟩

theorem ret_u64 {x y : Int} (h : x = y) : Ending.returned (.int .u64 x) = .returned (.int .u64 y) := by rw [h]
theorem ret_bool {x y : Bool} (h : x = y) : Ending.returned (.bool x) = .returned (.bool y) := by rw [h]

theorem mask_ge {n : Int} (h : 64 ≤ n) : maskV n = 18446744073709551615 := by
  unfold maskV
  rw [show min n.toNat 64 = 64 from by omega]
  rfl

theorem mask_lt {n : Int} (h0 : 0 ≤ n) (h : n < 64) : maskV n = IntKind.u64.wrap (2 ^ n.toNat) - 1 := by
  unfold maskV
  rw [show min n.toNat 64 = n.toNat from by omega, IntKind.wrap_u64]
  have h2 : (2 : Int) ^ n.toNat ≤ 2 ^ 63 := by
    have : (2 : Nat) ^ n.toNat ≤ 2 ^ 63 := Nat.pow_le_pow_right (by omega) (by omega)
    exact_mod_cast this
  have h3 := pow2_pos n.toNat
  rw [Int.emod_eq_of_lt (by omega) (by omega)]

theorem Mask_any (n : Int) (h : (Lit.int .i64 n).wf = true) (w : World) :
    Calls Try.prog 18 #[.int .i64 n] w fun e w' => e = .returned (.int .u64 (maskV n)) ∧ w = w' := by
  obtain ⟨n1, n2⟩ := bounds_i64 h
  by_cases hn : n < 0
  · go_enter Try.func18, Try.ntmps18
    go_wp2
    go_ret
    exact ⟨ret_u64 (by unfold maskV; rw [show n.toNat = 0 from by omega]; rfl), rfl⟩
  · by_cases hm : 64 ≤ n
    · go_enter Try.func18, Try.ntmps18
      go_wp2
      go_ret
      exact ⟨ret_u64 (by rw [mask_ge hm]; simp only [IntKind.wrap_u64]; rfl), rfl⟩
    · have hm' : n < 64 := by omega
      go_enter Try.func18, Try.ntmps18
      go_wp2
      go_ret
      exact ⟨ret_u64 (by rw [mask_lt (by omega) hm']; simp only [IntKind.wrap_u64]; have := (mask_le n); rw [mask_lt (by omega) hm', IntKind.wrap_u64] at this; omega), rfl⟩

theorem Fits_any (a n : Int) (ha : W64 a) (h : (Lit.int .i64 n).wf = true) (w : World) :
    Calls Try.prog 19 #[.int .u64 a, .int .i64 n] w fun e w' => e = .returned (.bool (decide (a ≤ maskV n))) ∧ w = w' := by
  go_enter Try.func19, Try.ntmps19
  go_wp2_with (go_at_call 18; refine (Mask_any _ h _).mono ?_; rintro e w' ⟨rfl, rfl⟩)
  go_ret
  exact ⟨rfl, rfl⟩

theorem wakes_plain : opR [38, 38] 2 4 = (1, 0) := by decide

/-- The document's fixed examples hold. -/
theorem wakes_any (w : World) : Calls Try.prog 12 #[] w fun e w' => e = .returned (.bool true) ∧ w = w' := by
  have h1 := fun w => Sub_no 3 5 (by unfold W64; decide) (by unfold W64; decide) (by decide) w
  have h2 := fun w => Shl_ok 1 63 (by unfold W64; decide) (by decide) (by decide) (by decide) w
  have h3 := fun w => Shl_no 2 63 (by unfold W64; decide) (by decide) (by decide) (by decide) w
  have h4 := fun (w : World) => Op_any ⟨#[38, 38]⟩ 2 4 (by unfold W64; decide) (by unfold W64; decide) w
  have h5 := fun w => Mask_any 3 (by decide) w
  have e4 : opR (ByteArray.toList ⟨#[38, 38]⟩) 2 4 = (1, 0) := by rw [show ByteArray.toList ⟨#[38, 38]⟩ = [38, 38] from by simp [go_sem]]; exact wakes_plain
  simp only [e4] at h4
  clear e4
  have H1 := Lib.hid h1; have H2 := Lib.hid h2; have H3 := Lib.hid h3; have H4 := Lib.hid h4; have H5 := Lib.hid h5
  clear h1 h2 h3 h4 h5
  go_enter Try.func12, Try.ntmps12
  go_wp2_with fail
  refine (H1.out _).mono ?_; rintro e w' ⟨rfl, rfl⟩
  go_wp2_with fail
  refine (H2.out _).mono ?_; rintro e w' ⟨rfl, rfl⟩
  go_wp2_with fail
  refine (H3.out _).mono ?_; rintro e w' ⟨rfl, rfl⟩
  go_wp2_with fail
  refine (H4.out _).mono ?_; rintro e w' ⟨rfl, rfl⟩
  go_wp2_with fail
  refine (H5.out _).mono ?_; rintro e w' ⟨rfl, rfl⟩
  go_wp2_with fail
  go_ret
  exact ⟨rfl, rfl⟩

end Go.Proofs.Ytejcpckkpgkgcaa
