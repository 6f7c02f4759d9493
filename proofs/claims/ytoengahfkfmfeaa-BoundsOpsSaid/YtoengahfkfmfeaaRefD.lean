/- Contracts of the document's own answers of layer 1: the bits of two numbers, and Op. -/
import Derived.Test.YtoengahfkfmfeaaRefC
import Derived.Test.YtoengahfkfmfeaaWordM
set_option linter.unusedVariables false
set_option linter.unusedSimpArgs false
namespace Go.Proofs.Ytoengahfkfmfeaa
open Go.ChangeShapes Go.WideShapes Go.ChangeAt Go.RowKit

def opN (ei : Bool) (X Y : Nat) : Nat := if ei then X ||| Y else X &&& Y
def restO (ei : Bool) (X Y j : Nat) : Int := ((opN ei X Y / 2 ^ j : Nat) : Int)

theorem opN_lt (ei : Bool) {X Y : Nat} (hx : X < 2 ^ 64) (hy : Y < 2 ^ 64) : opN ei X Y < 2 ^ 64 := by
  cases ei
  · exact Nat.lt_of_le_of_lt Nat.and_le_left hx
  · exact Nat.or_lt_two_pow hx hy
theorem opN_bit (ei : Bool) (X Y j : Nat) : opN ei X Y / 2 ^ j % 2 = if X / 2 ^ j % 2 + Y / 2 ^ j % 2 = 2 ∨ (ei = true ∧ X / 2 ^ j % 2 + Y / 2 ^ j % 2 = 1) then 1 else 0 := by
  have hx := Nat.testBit_eq_decide_div_mod_eq (x := X) (i := j)
  have hy := Nat.testBit_eq_decide_div_mod_eq (x := Y) (i := j)
  cases ei
  · have ho := Nat.testBit_eq_decide_div_mod_eq (x := X &&& Y) (i := j)
    rw [Nat.testBit_and, hx, hy] at ho
    show (X &&& Y) / 2 ^ j % 2 = _
    generalize X / 2 ^ j = x at *
    generalize Y / 2 ^ j = y at *
    generalize (X &&& Y) / 2 ^ j = o at *
    have : x % 2 = 0 ∨ x % 2 = 1 := by omega
    have : y % 2 = 0 ∨ y % 2 = 1 := by omega
    have : o % 2 = 0 ∨ o % 2 = 1 := by omega
    rcases this with h1 | h1 <;> rcases ‹y % 2 = 0 ∨ y % 2 = 1› with h2 | h2 <;> rcases ‹x % 2 = 0 ∨ x % 2 = 1› with h3 | h3 <;> simp_all
  · have ho := Nat.testBit_eq_decide_div_mod_eq (x := X ||| Y) (i := j)
    rw [Nat.testBit_or, hx, hy] at ho
    show (X ||| Y) / 2 ^ j % 2 = _
    generalize X / 2 ^ j = x at *
    generalize Y / 2 ^ j = y at *
    generalize (X ||| Y) / 2 ^ j = o at *
    have : x % 2 = 0 ∨ x % 2 = 1 := by omega
    have : y % 2 = 0 ∨ y % 2 = 1 := by omega
    have : o % 2 = 0 ∨ o % 2 = 1 := by omega
    rcases this with h1 | h1 <;> rcases ‹y % 2 = 0 ∨ y % 2 = 1› with h2 | h2 <;> rcases ‹x % 2 = 0 ∨ x % 2 = 1› with h3 | h3 <;> simp_all
theorem restO_step (ei : Bool) (X Y j : Nat) : restO ei X Y j = restO ei X Y (j + 1) + restO ei X Y (j + 1) + ((opN ei X Y / 2 ^ j % 2 : Nat) : Int) := by
  unfold restO
  rw [Nat.pow_succ, ← Nat.div_div_eq_div_mul]
  omega
theorem restO_le (ei : Bool) {X Y : Nat} (hx : X < 2 ^ 64) (hy : Y < 2 ^ 64) (j : Nat) : 0 ≤ restO ei X Y (j + 1) ∧ restO ei X Y (j + 1) ≤ 9223372036854775807 := by
  have h := opN_lt ei hx hy
  unfold restO
  rw [Nat.pow_succ, Nat.mul_comm, ← Nat.div_div_eq_div_mul]
  have h2 : opN ei X Y / 2 / 2 ^ j ≤ opN ei X Y / 2 := Nat.div_le_self _ _
  have h3 : opN ei X Y / 2 / 2 ^ j ≤ 9223372036854775807 := by omega
  generalize opN ei X Y / 2 / 2 ^ j = q at *
  omega
theorem bitsL_nat (X j : Nat) (hj : j < 64) : el (bitsL (X : Int)) j = ((X / 2 ^ j % 2 : Nat) : Int) := by
  unfold el
  rw [bitsL_get _ j hj]
  simp
/-- One place further down. -/
theorem restO_down (ei : Bool) (X Y j : Nat) (hj : j < 64) :
    restO ei X Y j = restO ei X Y (j + 1) + restO ei X Y (j + 1) + if el (bitsL X) j + el (bitsL Y) j = 2 ∨ (ei = true ∧ el (bitsL X) j + el (bitsL Y) j = 1) then 1 else 0 := by
  rw [restO_step, opN_bit, bitsL_nat X j hj, bitsL_nat Y j hj]
  generalize X / 2 ^ j = x
  generalize Y / 2 ^ j = y
  congr 1
  cases ei
  · simp only [Bool.false_eq_true, false_and, or_false]
    split <;> split <;> omega
  · simp only [true_and]
    split <;> split <;> omega

theorem bits01 (a : Int) (j : Nat) : el (bitsL a) j = 0 ∨ el (bitsL a) j = 1 := bitsL_bits a j

set_option maxRecDepth 100000 in
theorem refBoth_any (ei : Bool) (X Y : Nat) (ha : W64 X) (hb : W64 Y) (w : World) :
    Calls Try.prog 51 #[.int .u64 X, .int .u64 Y, .bool ei] w fun e w' => e = .returned (.int .u64 ((opN ei X Y : Nat) : Int)) ∧ Below w.heap.size w w' := by
  have hX : X < 2 ^ 64 := by have := ha.2; omega
  have hY : Y < 2 ^ 64 := by have := hb.2; omega
  go_enter Try.func51, Try.ntmps51
  go_wp2_with fail
  refine (refBits_any X ha _).mono ?_; rintro e w1 ⟨rfl, r1, b1⟩
  go_wp2_with fail
  refine (refBits_any Y hb _).mono ?_; rintro e w2 ⟨rfl, r2, b2⟩
  go_wp2_with fail
  have hr1 := r1.below b2 r1.lt.2
  have hbel := b1.trans (b2.mono b1.size)
  clear r1 b1 b2
  generalize w1.heap.size = gy at r2
  go_loopw [9, 10, 11] (fun n i s wr => ∃ k : Int, -1 ≤ k ∧ k ≤ 63 ∧ i = .int .i64 k ∧ n = .int .u64 (restO ei X Y (k + 1).toNat) ∧ Row 3 .i64 w.heap.size wr w.heap.size 64 (bitsL X) ∧ Row 3 .i64 gy wr gy 64 (bitsL Y) ∧ Below w.heap.size w wr) (fun _ i _ _ => (intOf i + 1).toNat)
  case atStart =>
    refine ⟨63, by omega, by omega, rfl, ?_, hr1, r2, hbel⟩
    unfold restO
    rw [show ((63 : Int) + 1).toNat = 64 from rfl, Nat.div_eq_of_lt (opN_lt ei hX hY)]
    rfl
  case round =>
    clear hr1 r2 hbel
    obtain ⟨k, hk1, hk2, rfl, rfl, hx, hy, hbel⟩ := hrel
    by_cases h0 : 0 ≤ k
    · obtain ⟨k, rfl⟩ := Int.eq_ofNat_of_zero_le h0
      have hcx := hx.cell (j := k) (by rw [bitsL_length]; omega)
      have hcy := hy.cell (j := k) (by rw [bitsL_length]; omega)
      rw [show ((k : Int) + 1).toNat = k + 1 from by omega]
      obtain ⟨n1, n2⟩ := restO_le ei hX hY k
      have HD := Lib.hid (restO_down ei X Y k (by omega))
      have fin : ∀ v : Int, restO ei X Y k = v → (Value.int .u64 v = .int .u64 (restO ei X Y ((k : Int) - 1 + 1).toNat)) := fun v hv => by
        rw [show ((k : Int) - 1 + 1).toNat = k from by omega, hv]
      have FIN := Lib.hid fin
      clear fin
      have hkl : (k : Int) < 64 := by omega
      have p1 : 0 ≤ el (bitsL X) k ∧ el (bitsL X) k ≤ 1 := by rcases bits01 X k with h | h <;> omega
      have p2 : 0 ≤ el (bitsL Y) k ∧ el (bitsL Y) k ≤ 1 := by rcases bits01 Y k with h | h <;> omega
      by_cases hs2 : 2 ≤ el (bitsL X) k + el (bitsL Y) k
      · go_wp2_with fail
        go_quiet (fail)
        go_wp2
        go_roundw
        case rel => exact ⟨(k : Int) - 1, by omega, by omega, rfl, FIN.out _ (by rw [HD.out, if_pos (.inl (by omega))]), hx.drewN _, hy.drewN _, below_drewN hbel _⟩
        case measure => simp [intOf]
      · by_cases hs1 : 1 ≤ el (bitsL X) k + el (bitsL Y) k
        · have e1 : el (bitsL X) k + el (bitsL Y) k = 1 := by omega
          clear hs1 hs2
          cases ei
          · go_wp2_with fail
            go_quiet (fail)
            go_wp2
            go_roundw
            case rel => exact ⟨(k : Int) - 1, by omega, by omega, rfl, FIN.out _ (by rw [HD.out, if_neg (by rintro (h | h); omega; simp at h)]; omega), hx.drewN _, hy.drewN _, below_drewN hbel _⟩
            case measure => simp [intOf]
          · go_wp2_with fail
            go_quiet (fail)
            go_wp2
            go_roundw
            case rel => exact ⟨(k : Int) - 1, by omega, by omega, rfl, FIN.out _ (by rw [HD.out, if_pos (.inr ⟨by trivial, by omega⟩)]), hx.drewN _, hy.drewN _, below_drewN hbel _⟩
            case measure => simp [intOf]
        · have e1 : el (bitsL X) k + el (bitsL Y) k = 0 := by omega
          clear hs1 hs2
          cases ei
          all_goals
            go_wp2_with fail
            go_quiet (fail)
            go_wp2
            go_roundw
            case rel => exact ⟨(k : Int) - 1, by omega, by omega, rfl, FIN.out _ (by rw [HD.out, if_neg (by omega)]; omega), hx.drewN _, hy.drewN _, below_drewN hbel _⟩
            case measure => simp [intOf]
    · obtain rfl : k = -1 := by omega
      go_wp2
      go_ret
      exact ⟨ret_u64 (by unfold restO; simp), hbel⟩

set_option maxRecDepth 100000 in
theorem refAnd_any (a b : Int) (ha : W64 a) (hb : W64 b) (w : World) :
    Calls Try.prog 51 #[.int .u64 a, .int .u64 b, .bool false] w fun e w' => e = .returned (.int .u64 (andV a b)) ∧ Below w.heap.size w w' := by
  obtain ⟨X, rfl⟩ := Int.eq_ofNat_of_zero_le ha.1
  obtain ⟨Y, rfl⟩ := Int.eq_ofNat_of_zero_le hb.1
  exact refBoth_any false X Y ha hb w
set_option maxRecDepth 100000 in
theorem refOr_any (a b : Int) (ha : W64 a) (hb : W64 b) (w : World) :
    Calls Try.prog 51 #[.int .u64 a, .int .u64 b, .bool true] w fun e w' => e = .returned (.int .u64 (orV a b)) ∧ Below w.heap.size w w' := by
  obtain ⟨X, rfl⟩ := Int.eq_ofNat_of_zero_le ha.1
  obtain ⟨Y, rfl⟩ := Int.eq_ofNat_of_zero_le hb.1
  exact refBoth_any true X Y ha hb w

set_option maxRecDepth 100000 in
theorem refTruth_any (b : Bool) (w : World) :
    Calls Try.prog 52 #[.bool b] w fun e w' => e = .returned (.int .u64 (truthV b)) ∧ w = w' := by
  cases b
  all_goals
    go_enter Try.func52, Try.ntmps52
    go_wp2
    go_ret
    exact ⟨rfl, rfl⟩

theorem divmod_err (a b : Int) : (divR a b).2 = (modR a b).2 := by unfold divR modR; split <;> rfl

set_option maxRecDepth 100000 in
set_option maxHeartbeats 2000000 in
theorem refOp_any (s : ByteArray) (a b : Int) (ha : W64 a) (hb : W64 b) (w : World) :
    Calls Try.prog 25 #[.string s, .int .u64 a, .int .u64 b] w fun e w' => e = pairOf (opR s.toList a b) ∧ Below w.heap.size w w' := by
  have hdm := Lib.hid (divmod_err a b)
  go_enter Try.func25, Try.ntmps25
  go_wp2_with (first | (go_at_call 52; refine (refTruth_any _ _).mono ?_; rintro e w' ⟨rfl, rfl⟩) | (go_at_call 46; refine (refAdd_any _ _ ha hb _).mono ?_; rintro e w' ⟨rfl, hbel⟩) | (go_at_call 47; refine (refSub_any _ _ ha hb _).mono ?_; rintro e w' ⟨rfl, rfl⟩) | (go_at_call 48; refine (refMul_any _ _ ha hb _).mono ?_; rintro e w' ⟨rfl, hbel⟩) | (go_at_call 49; refine (refDiv_any _ _ ha hb _).mono ?_; rintro e w' ⟨rfl, hbel⟩) | (go_at_call 50; refine (refShl_any _ _ ha hb _).mono ?_; rintro e w' ⟨rfl, rfl⟩) | (go_at_call 28; refine (refShr_any _ _ ha hb _).mono ?_; rintro e w' ⟨rfl, rfl⟩) | ((with_reducible refine (refAnd_any _ _ ha hb _).mono ?_); rintro e w' ⟨rfl, hbel⟩) | ((with_reducible refine (refOr_any _ _ ha hb _).mono ?_); rintro e w' ⟨rfl, hbel⟩))
  all_goals go_ret2
  all_goals refine ⟨?_, by first | exact Below.refl _ _ | assumption⟩
  all_goals first | (refine ret_same ?_; simp only [opR, if_true, if_false, Bool.false_eq_true, *]; done) | (refine ret_pair ?_; have h0 : (a != 0) = true := bne_iff_ne.2 ‹¬ a = 0›; simp [opR, *]; done) | (refine ret_pair ?_; simp [opR, *]; done) | (refine ret_pair ?_; simp only [opR, if_true, if_false, Bool.false_eq_true, *]; exact Prod.ext rfl hdm.out.symm)

end Go.Proofs.Ytoengahfkfmfeaa
