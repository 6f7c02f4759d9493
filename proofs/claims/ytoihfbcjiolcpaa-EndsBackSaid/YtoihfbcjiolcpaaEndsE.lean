/- Contracts of layer 2: Get, by package ends and by the document. -/
import Derived.Test.YtoihfbcjiolcpaaEndsD
import Derived.Laws.Bits64b
namespace Go.Proofs.Ytoihfbcjiolcpaa
open Go.ChangeShapes Go.WideShapes Go.ChangeAt Go.RowKit
set_option linter.unusedVariables false

/-- 'returned the number and the error of r'. -/
abbrev numOf (r : Int × Int) : Ending := .returned (.tuple #[.int .u64 r.1, .int .i64 r.2])
theorem numOf_mk {r : Int × Int} {x y : Int} (h : r = (x, y)) : Ending.returned (.tuple #[.int .u64 x, .int .i64 y]) = numOf r := by subst h; rfl

theorem Get_size (s : ByteArray) (p k : Int) (little : Bool) (h : goodB k = false) (w : World) :
    Calls Try.prog 15 #[.string s, .int .i64 p, .int .i64 k, .bool little] w fun e w' => e = numOf (getR s.data.toList p k little) ∧ w = w' := by
  go_enter Try.func15, Try.ntmps15
  go_wp2_with (go_at_call 10; refine (Good_any _ _).mono ?_; rintro e w' ⟨rfl, rfl⟩)
  go_ret2
  exact ⟨numOf_mk (by simp [getR, h]), rfl⟩

theorem Get_neg (s : ByteArray) (p : Int) (m : Nat) (little : Bool) (h : goodB (m : Int) = true) (hp : p < 0) (w : World) :
    Calls Try.prog 15 #[.string s, .int .i64 p, .int .i64 m, .bool little] w fun e w' => e = numOf (getR s.data.toList p m little) ∧ w = w' := by
  go_enter Try.func15, Try.ntmps15
  go_wp2_with (go_at_call 10; refine (Good_any _ _).mono ?_; rintro e w' ⟨rfl, rfl⟩)
  go_ret2
  exact ⟨numOf_mk (by simp [getR, h]; omega), rfl⟩

theorem Get_far (s : ByteArray) (p : Int) (m : Nat) (little : Bool) (h : goodB (m : Int) = true) (hs : s.size ≤ maxLen) (hp0 : 0 ≤ p) (hp : (s.size : Int) < p + m) (w : World) :
    Calls Try.prog 15 #[.string s, .int .i64 p, .int .i64 m, .bool little] w fun e w' => e = numOf (getR s.data.toList p m little) ∧ w = w' := by
  obtain ⟨m1, m2⟩ := good_le h
  unfold maxLen at hs
  have h1 : (s.size : Int) - (m : Int) < p := by omega
  have h2 : ¬ p < 0 := by omega
  have HP := Lib.hid hp
  clear hp
  go_enter Try.func15, Try.ntmps15
  go_wp2_with (go_at_call 10; refine (Good_any _ _).mono ?_; rintro e w' ⟨rfl, rfl⟩)
  go_ret2
  exact ⟨numOf_mk (by have := HP.out; simp [getR, h]; omega), rfl⟩

/-- The bytes in question, the least first. -/
def picked (l : List UInt8) (p m : Nat) (little : Bool) : List UInt8 := orient little ((l.drop p).take m)
theorem picked_length {l : List UInt8} {p m : Nat} (little : Bool) (h : p + m ≤ l.length) : (picked l p m little).length = m := by
  rw [picked, orient_length, List.length_take, List.length_drop]; omega
theorem picked_at {l : List UInt8} {p m r : Nat} {little : Bool} {b : UInt8} (h : p + m ≤ l.length) (hr : r < m) (hb : l[p + placeN little r m]? = some b) : (picked l p m little)[r]? = some b := by
  have e : ((l.drop p).take m).length = m := by rw [List.length_take, List.length_drop]; omega
  rw [picked, orient_get' little _ r (by rw [e]; exact hr), e, List.getElem?_take, if_pos (placeN_lt hr), List.getElem?_drop]
  exact hb
theorem getR_ok (l : List UInt8) (p m : Nat) (little : Bool) (h : goodB (m : Int) = true) (hp : p + m ≤ l.length) : getR l p m little = (((decN (picked l p m little) : Nat) : Int), 0) := by
  have h2 : (p : Int) + m ≤ l.length := by omega
  simp [getR, h, picked, h2]

theorem or_step {x k b : Nat} (hx : x < 256 ^ k) (hk : k < 8) (hb : b < 256) :
    bits .or .u64 (x : Int) (IntKind.u64.wrap (IntKind.u64.wrap (b : Int) * 2 ^ (8 * k))) = ((x + 256 ^ k * b : Nat) : Int) := by
  have h1 : (2 : Nat) ^ (8 * k) ≤ 2 ^ 56 := Nat.pow_le_pow_right (by omega) (by omega)
  have h2 : b * 2 ^ (8 * k) ≤ 255 * 2 ^ 56 := Nat.mul_le_mul (by omega) h1
  have e1 : IntKind.u64.wrap (b : Int) = b := by rw [IntKind.wrap_u64]; omega
  have e2 : (b : Int) * 2 ^ (8 * k) = ((b * 2 ^ (8 * k) : Nat) : Int) := by simp
  have e3 : IntKind.u64.wrap ((b * 2 ^ (8 * k) : Nat) : Int) = ((b * 2 ^ (8 * k) : Nat) : Int) := by rw [IntKind.wrap_u64]; omega
  have h3 : x < 18446744073709551616 := Nat.lt_of_lt_of_le hx (pow256_le (by omega))
  rw [e1, e2, e3, bits_or_u64_nat x _ h3 (by omega), or_byte hx]

theorem Get_ok (s : ByteArray) (p m : Nat) (little : Bool) (h : goodB (m : Int) = true) (hs : s.size ≤ maxLen) (hp : p + m ≤ s.size) (w : World) :
    Calls Try.prog 15 #[.string s, .int .i64 p, .int .i64 m, .bool little] w fun e w' => e = numOf (getR s.data.toList p m little) ∧ w = w' := by
  obtain ⟨m1, m2⟩ := good_le h
  unfold maxLen at hs
  have h1 : (p : Int) ≤ (s.size : Int) - (m : Int) := by omega
  have HL := Lib.hid (picked_length little (show p + m ≤ s.data.toList.length from by simpa using hp))
  have HR := Lib.hid (getR_ok s.data.toList p m little h (by simpa using hp))
  generalize hL : picked s.data.toList p m little = L at HL HR
  have HLL := Lib.hid hL
  clear hL
  go_enter Try.func15, Try.ntmps15
  go_wp2_with (go_at_call 10; refine (Good_any _ _).mono ?_; rintro e w' ⟨rfl, rfl⟩)
  go_loop [10, 26] (fun x i => ∃ (k x' : Nat), k ≤ m ∧ i = .int .i64 k ∧ x = .int .u64 x' ∧ Hid (x' = decN (L.take k))) (fun _ i => m - (intOf i).toNat)
  case atStart => exact ⟨0, 0, by omega, rfl, rfl, Lib.hid rfl⟩
  case round =>
    obtain ⟨k, x, hk, rfl, rfl, HX⟩ := hrel
    by_cases hlt : k < m
    · have hpl := placeN_lt (little := little) hlt
      have hP := fun w => place_any k m little hlt (by omega) w
      have HP := Lib.hid hP
      clear hP
      obtain ⟨q, hq1, HQ⟩ : ∃ q : Nat, q < m ∧ Hid (placeN little k m = q) := ⟨_, hpl, Lib.hid rfl⟩
      rw [HQ.out] at HP
      clear hpl
      have hpq : p + q < s.size := by omega
      have hx : x < 256 ^ k := by rw [HX.out]; exact take_dec_lt L k (by rw [HL.out]; omega)
      have hx1 : x < 18446744073709551616 := Nat.lt_of_lt_of_le hx (pow256_le (by omega))
      have HB := Lib.hid (take_succ_dec L k s[p + q] (by rw [← HLL.out]; exact picked_at (by simpa using hp) hlt (by rw [HQ.out]; exact byteAt s hpq)))
      have HXX := Lib.hid hx
      clear hx
      have hw0 : (0 : Int) ≤ 8 * (k : Int) := by omega
      have hw2 : (8 * (k : Int)).toNat = 8 * k := by omega
      go_wp2_with ((with_reducible refine (HP.out _).mono ?_); rintro e w' ⟨rfl, rfl⟩)
      go_round
      case rel =>
        refine ⟨k + 1, _, by omega, by go_num, ?_, Lib.hid HB.out.symm⟩
        rw [or_step HXX.out (by omega) (byte_lt _), HX.out]
      case measure => simp [intOf]; omega
    · obtain rfl : k = m := by omega
      go_wp2
      go_ret2
      exact ⟨numOf_mk (by rw [HR.out, HX.out, List.take_of_length_le (by rw [HL.out]; omega)]), rfl⟩

/-- Get of package ends. -/
theorem Get_any (s : ByteArray) (p k : Int) (little : Bool) (hs : s.size ≤ maxLen) (w : World) :
    Calls Try.prog 15 #[.string s, .int .i64 p, .int .i64 k, .bool little] w fun e w' => e = numOf (getR s.data.toList p k little) ∧ w = w' := by
  by_cases h : goodB k = true
  · obtain ⟨m, rfl⟩ := Int.eq_ofNat_of_zero_le (a := k) (by have := good_le h; omega)
    by_cases h0 : p < 0
    · exact Get_neg s p m little h h0 w
    · by_cases h1 : (s.size : Int) < p + m
      · exact Get_far s p m little h hs (by omega) h1 w
      · obtain ⟨q, rfl⟩ := Int.eq_ofNat_of_zero_le (a := p) (by omega)
        exact Get_ok s q m little h hs (by omega) w
  · exact Get_size s p k little (by simpa using h) w

end Go.Proofs.Ytoihfbcjiolcpaa
