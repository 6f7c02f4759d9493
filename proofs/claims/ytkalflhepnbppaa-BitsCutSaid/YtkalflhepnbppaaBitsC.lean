/- Contracts of layer 3: the document's part of a number. -/
import Derived.Test.YtkalflhepnbppaaBitsB
import Derived.Test.YtkalflhepnbppaaRefM
import Derived.Deep.QuietTactic
import Derived.BigQuiet
import Derived.Laws.BitsAllLaws
import Derived.Laws.Bits64b
namespace Go.Proofs.Ytkalflhepnbppaa
open Go.ChangeShapes Go.WideShapes Go.ChangeAt Go.RowKit
set_option linter.unusedVariables false

theorem refPart_out (n : Nat) (b d : Int) (h : b < 0 ∨ 63 < b ∨ d < 1 ∨ 64 < d) (w : World) :
    Calls Try.prog 11 #[.int .u64 n, .int .i64 b, .int .i64 d] w fun e w' => e = .returned (.int .u64 (partV n b d)) ∧ Below w.heap.size w w' := by
  rw [partV_out h]
  by_cases h1 : b < 0
  · go_enter Try.func11, Try.ntmps11
    go_wp2
    go_ret
    exact ⟨rfl, Below.refl _ _⟩
  · have d1 : decide (b < 0) = false := by simpa using h1
    by_cases h2 : 63 < b
    · clear h
      go_enter Try.func11, Try.ntmps11
      go_wp2
      go_ret
      exact ⟨rfl, Below.refl _ _⟩
    · have d2 : decide (63 < b) = false := by simpa using h2
      by_cases h3 : d < 1
      · clear h h2 h1
        go_enter Try.func11, Try.ntmps11
        go_wp2
        go_ret
        exact ⟨rfl, Below.refl _ _⟩
      · have d3 : decide (d < 1) = false := by simpa using h3
        have h4 : 64 < d := by omega
        clear h h1 h2 h3
        go_enter Try.func11, Try.ntmps11
        go_wp2
        go_ret
        exact ⟨rfl, Below.refl _ _⟩

set_option maxHeartbeats 400000 in
theorem refPart_in (n b d : Nat) (hn : n < 18446744073709551616) (h1 : b ≤ 63) (h2 : 1 ≤ d) (h3 : d ≤ 64) (w : World) :
    Calls Try.prog 11 #[.int .u64 n, .int .i64 b, .int .i64 d] w fun e w' => e = .returned (.int .u64 (part n b d : Nat)) ∧ Below w.heap.size w w' := by
  have HB := Lib.hid (fun w => refBits_any n ⟨by omega, by omega⟩ w)
  have e1 : ((b : Int) + d) - 1 = ((b + d : Nat) : Int) - 1 := by omega
  go_enter Try.func11, Try.ntmps11
  go_wp2_with fail
  refine (HB.out _).mono ?_; rintro e w1 ⟨rfl, hr, hb⟩
  go_wp2_with fail
  obtain ⟨E, HE⟩ : ∃ E, Hid (E = b + d) := ⟨_, Lib.hid rfl⟩
  have HR := Lib.hid hr
  have HBL := Lib.hid hb
  clear hr hb
  go_loop [8, 9] (fun p i => ∃ (q x : Nat), b ≤ q ∧ q ≤ b + d ∧ i = .int .i64 ((q : Int) - 1) ∧ p = .int .u64 x ∧ x < 18446744073709551616 ∧ Hid (x = part n q (E - q))) (fun _ i => (intOf i + 1 - b).toNat)
  case atStart => exact ⟨b + d, 0, by omega, by omega, rfl, rfl, by omega, Lib.hid (by rw [HE.out, Nat.sub_self, part_none])⟩
  case round =>
    obtain ⟨q, x, hq0, hq1, rfl, rfl, hx, HX⟩ := hrel
    by_cases hlt : b < q
    · obtain ⟨r, rfl⟩ : ∃ r, q = r + 1 := ⟨q - 1, by omega⟩
      have e2 : (((r + 1 : Nat) : Int) - 1) = (r : Int) := by omega
      rw [e2]
      clear e2
      have HS := Lib.hid (part_down n E r (by rw [HE.out]; omega))
      by_cases h64 : r < 64
      · have hc := HR.out.cell (j := r) (by rw [bitsL_length]; exact h64)
        have hy : el (bitsL n) r = ((n / 2 ^ r % 2 : Nat) : Int) := by rw [show el (bitsL n) r = (n : Int) / 2 ^ r % 2 from bitsL_get n r h64]; simp
        rw [hy] at hc
        clear hy
        obtain ⟨y, HY, hy1⟩ : ∃ y, Hid (n / 2 ^ r % 2 = y) ∧ y ≤ 1 := ⟨_, Lib.hid rfl, by omega⟩
        rw [HY.out] at hc
        have hbd : x + x + y < 18446744073709551616 := by
          have h1 := HS.out
          have h2 := part_le n r (E - r)
          rw [← HX.out, HY.out] at h1
          omega
        go_wp2
        go_round
        case rel => exact ⟨r, x + x + y, by omega, by omega, rfl, by go_num, by omega, Lib.hid (by rw [HS.out, ← HX.out, HY.out])⟩
        case measure => simp [intOf]; omega
      · have hx0 : x = 0 := by rw [HX.out]; exact part_high hn (by omega)
        have HX0 := Lib.hid hx0
        clear hx0
        go_wp2
        go_round
        case rel => exact ⟨r, x, by omega, by omega, rfl, rfl, by omega, Lib.hid (by rw [HX0.out]; exact (part_high hn (by omega)).symm)⟩
        case measure => simp [intOf]; omega
    · obtain rfl : q = b := by omega
      go_wp2
      go_ret
      exact ⟨ret_u64 (by rw [HX.out, HE.out, Nat.add_sub_cancel_left]), HBL.out⟩

theorem wf_i64 {n : Int} (h1 : -9223372036854775808 ≤ n) (h2 : n ≤ 9223372036854775807) : (Lit.int .i64 n).wf = true := by
  simp [Lit.wf, IntKind.min, IntKind.max, IntKind.bits, IntKind.signed]; omega

/-- The document's part, by any place and width. -/
theorem refPart_any (n : Nat) (b d : Int) (hn : n < 18446744073709551616) (w : World) :
    Calls Try.prog 11 #[.int .u64 n, .int .i64 b, .int .i64 d] w fun e w' => e = .returned (.int .u64 (partV n b d)) ∧ Below w.heap.size w w' := by
  by_cases h : b < 0 ∨ 63 < b ∨ d < 1 ∨ 64 < d
  · exact refPart_out n b d h w
  · obtain ⟨x, rfl⟩ := Int.eq_ofNat_of_zero_le (a := b) (by omega)
    obtain ⟨y, rfl⟩ := Int.eq_ofNat_of_zero_le (a := d) (by omega)
    rw [partV_in (by omega) (by omega) (by omega)]
    exact refPart_in n x y hn (by omega) (by omega) (by omega) w

/-- A field's part: package bits. -/
theorem Get_out (n : Nat) (b d : Int) (h : b < 0 ∨ 63 < b ∨ d < 1 ∨ 64 < d) (w : World) :
    Calls Try.prog 10 #[.agg #[.int .i64 b, .int .i64 d], .int .u64 n] w fun e w' => e = .returned (.int .u64 (partV n b d)) ∧ Below w.heap.size w w' := by
  rw [partV_out h]
  go_enter Try.func10, Try.ntmps10
  go_wp2
  all_goals go_ret
  all_goals exact ⟨rfl, (Below.refl _ _).alloc (Nat.le_refl _) _⟩

theorem below_drewN {B : Nat} {a w : World} (h : Below B a w) (n : Nat) : Below B a (w.drewN n) := ⟨h.os, h.tape, h.output, h.size, h.block⟩
theorem quiet_left {P : Program} {f : FuncId} {args : Array Value} {w : World} {n : Nat} {v : Value}
    (h : Calls P f args (w.drewN n) fun e w' => e = .returned v ∧ w.drewN n = w') : Calls P f args (w.drewN n) fun e w'' => e = .returned v ∧ ∃ m, w'' = w.drewN m :=
  h.mono fun _ _ ⟨he, hm⟩ => ⟨he, n, hm.symm⟩
theorem u64_and_mask {x m : Nat} (hx : x < 18446744073709551616) (hm : m ≤ 64) : bits .and .u64 (x : Int) (maskV (m : Int)) = ((x % 2 ^ m : Nat) : Int) := by
  have h1 : (1 : Nat) ≤ 2 ^ m := Nat.pow_pos (by decide)
  have h2 : (2 : Nat) ^ m ≤ 2 ^ 64 := Nat.pow_le_pow_right (by decide) hm
  have e : maskV (m : Int) = ((2 ^ m - 1 : Nat) : Int) := by
    unfold maskV
    rw [show min (m : Int).toNat 64 = m from by omega]
    have : ((2 : Nat) ^ m : Int) = (2 : Int) ^ m := by simp
    omega
  rw [e, bits_and_u64_nat _ _ hx (by omega), Nat.and_two_pow_sub_one_eq_mod]

theorem Get_in (n b d : Nat) (hn : n < 18446744073709551616) (h1 : b ≤ 63) (h2 : 1 ≤ d) (h3 : d ≤ 64) (w : World) :
    Calls Try.prog 10 #[.agg #[.int .i64 b, .int .i64 d], .int .u64 n] w fun e w' => e = .returned (.int .u64 (part n b d : Nat)) ∧ Below w.heap.size w w' := by
  have hM := fun w => Mask_any d (wf_i64 (by omega) (by omega)) w
  have HM := Lib.hid hM
  clear hM
  go_enter Try.func10, Try.ntmps10
  go_wp2_with fail
  go_quiet ((go_at_call 21; exact quiet_left (HM.out _)))
  go_wp2
  go_ret
  refine ⟨ret_u64 ?_, below_drewN ((Below.refl _ _).alloc (Nat.le_refl _) _) _⟩
  rw [show (n : Int) / 2 ^ b = ((n / 2 ^ b : Nat) : Int) from by simp]
  exact u64_and_mask (Nat.lt_of_le_of_lt (Nat.div_le_self _ _) hn) h3

theorem Get_any (n : Nat) (b d : Int) (hn : n < 18446744073709551616) (w : World) :
    Calls Try.prog 10 #[.agg #[.int .i64 b, .int .i64 d], .int .u64 n] w fun e w' => e = .returned (.int .u64 (partV n b d)) ∧ Below w.heap.size w w' := by
  by_cases h : b < 0 ∨ 63 < b ∨ d < 1 ∨ 64 < d
  · exact Get_out n b d h w
  · obtain ⟨x, rfl⟩ := Int.eq_ofNat_of_zero_le (a := b) (by omega)
    obtain ⟨y, rfl⟩ := Int.eq_ofNat_of_zero_le (a := d) (by omega)
    rw [partV_in (by omega) (by omega) (by omega)]
    exact Get_in n x y hn (by omega) (by omega) (by omega) w

end Go.Proofs.Ytkalflhepnbppaa
