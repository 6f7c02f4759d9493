/- Contracts of layer 11: Ranges. -/
import Derived.Test.YtoengahfkfmfeaaBdP
import Derived.Test.YtoengahfkfmfeaaExB
import Derived.Test.YtoengahfkfmfeaaWordC
import Derived.Test.YtoengahfkfmfeaaWordM
import Derived.Test.YtoengahfkfmfeaaShelf
import Derived.BigQuiet
import Derived.Deep.CutBlock
import Derived.Deep.RegionWith
import Derived.StillTailTactics
namespace Go.Proofs.Ytoengahfkfmfeaa
open Go.ChangeShapes Go.WideShapes Go.ChangeAt Go.RowKit
set_option linter.unusedVariables false

theorem three_below (w : World) (a b c : Obj) : Below w.heap.size w (((w.alloc a).alloc b).alloc c) := (((Below.refl _ _).alloc (Nat.le_refl _) _).alloc (by simp) _).alloc (by simp; omega) _
abbrev rv (a b : Int) : Value := .agg #[.int .u64 a, .int .u64 b]
theorem valid_any (a b : Int) (w : World) :
    Calls Try.prog 23 #[.agg #[.int .u64 a, .int .u64 b]] w fun e w' => e = .returned (.bool (decide (a ≤ b))) ∧ Below w.heap.size w w' := by
  go_enter Try.func23, Try.ntmps23
  go_wp2
  go_ret
  exact ⟨rfl, (Below.refl _ _).alloc (Nat.le_refl _) _⟩
theorem point_any (a b : Int) (w : World) :
    Calls Try.prog 43 #[.agg #[.int .u64 a, .int .u64 b]] w fun e w' => e = .returned (.bool (a == b)) ∧ Below w.heap.size w w' := by
  go_enter Try.func43, Try.ntmps43
  go_wp2
  go_ret
  exact ⟨rfl, (Below.refl _ _).alloc (Nat.le_refl _) _⟩
theorem Has_any (a b n : Int) (w : World) :
    Calls Try.prog 14 #[.agg #[.int .u64 a, .int .u64 b], .int .u64 n] w fun e w' => e = .returned (.bool (decide (a ≤ n) && decide (n ≤ b))) ∧ Below w.heap.size w w' := by
  by_cases h : a ≤ n
  · go_enter Try.func14, Try.ntmps14
    go_wp2
    go_ret
    exact ⟨by simp [h]; try omega, (Below.refl _ _).alloc (Nat.le_refl _) _⟩
  · go_enter Try.func14, Try.ntmps14
    go_wp2
    go_ret
    exact ⟨by simp [h]; try omega, (Below.refl _ _).alloc (Nat.le_refl _) _⟩
theorem Point_any (n : Int) (w : World) :
    Calls Try.prog 15 #[.int .u64 n] w fun e w' => e = .returned (.agg #[.int .u64 n, .int .u64 n]) ∧ Below w.heap.size w w' := by
  go_enter Try.func15, Try.ntmps15
  go_wp2
  exact bodyPost_ret (v := .agg #[.int .u64 n, .int .u64 n]) (by simp [results, Try.results15, go_sem]) rfl ⟨rfl, (Below.refl _ _).alloc (Nat.le_refl _) _⟩
theorem All_any (k : Int) (hk : -9223372036854775808 ≤ k ∧ k ≤ 9223372036854775807) (w : World) :
    Calls Try.prog 16 #[.int .i64 k] w fun e w' => e = .returned (.agg #[.int .u64 0, .int .u64 (maskV k)]) ∧ Below w.heap.size w w' := by
  have H := Lib.hid fun w' => Mask_any k (by simp [Lit.wf, IntKind.min, IntKind.max, IntKind.signed, IntKind.bits]; omega) w'
  clear hk
  go_enter Try.func16, Try.ntmps16
  go_wp2_with (go_at_call 29; refine (H.out _).mono ?_; rintro e w' ⟨rfl, rfl⟩)
  exact bodyPost_ret (v := .agg #[.int .u64 0, .int .u64 (maskV k)]) (by simp [results, Try.results16, go_sem]) rfl ⟨rfl, (Below.refl _ _).alloc (Nat.le_refl _) _⟩
theorem Join_any (a b c d : Int) (w : World) :
    Calls Try.prog 12 #[.agg #[.int .u64 a, .int .u64 b], .agg #[.int .u64 c, .int .u64 d]] w fun e w' => e = .returned (.agg #[.int .u64 (min a c), .int .u64 (max b d)]) ∧ Below w.heap.size w w' := by
  go_enter Try.func12, Try.ntmps12
  go_wp2_with fail
  exact bodyPost_ret (v := .agg #[.int .u64 (min a c), .int .u64 (max b d)]) (by simp [results, Try.results12, go_sem]) rfl ⟨rfl, three_below _ _ _ _⟩
theorem lenV_eq : ∀ (k n : Nat), n < k → n < 2 ^ 64 → Lib.bitLen n = lenV (n : Int)
  | 0, n, h, _ => absurd h (Nat.not_lt_zero _)
  | k + 1, n, h, hn => by
    by_cases h0 : n = 0
    · subst h0; rfl
    · have ih := lenV_eq k (n / 2) (by omega) (by omega)
      rw [Lib.bitLen_half n h0 hn, ih]
      unfold lenV
      rw [if_neg (by omega : ¬ (n : Int) = 0), show ((n : Int)).toNat = n from rfl, show (((n / 2 : Nat) : Int)).toNat = n / 2 from rfl, Nat.log2_def n]
      by_cases h1 : 2 ≤ n
      · rw [if_pos h1, if_neg (by omega)]; omega
      · obtain rfl : n = 1 := by omega
        rfl
theorem Len64_any (n : Int) (hn : W64 n) (w : World) :
    Calls Try.prog 45 #[.int .u64 n] w fun e w' => e = .returned (.int .i64 (lenV n)) ∧ w = w' := by
  refine (Try.bits_Len64 n w hn.1 hn.2).mono ?_
  rintro e w' ⟨rfl, rfl⟩
  obtain ⟨h1, h2⟩ := hn
  obtain ⟨m, rfl⟩ := Int.eq_ofNat_of_zero_le h1
  exact ⟨by rw [show ((m : Int)).toNat = m from rfl, lenV_eq (m + 1) m (by omega) (by omega)], rfl⟩
end Go.Proofs.Ytoengahfkfmfeaa
