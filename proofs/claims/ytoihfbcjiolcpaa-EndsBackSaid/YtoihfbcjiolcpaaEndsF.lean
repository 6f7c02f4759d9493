/- Contracts of layer 2: Get, by the document. -/
import Derived.Test.YtoihfbcjiolcpaaEndsE
namespace Go.Proofs.Ytoihfbcjiolcpaa
open Go.ChangeShapes Go.WideShapes Go.ChangeAt Go.RowKit
set_option linter.unusedVariables false

theorem refGet_size (s : ByteArray) (p k : Int) (little : Bool) (h : goodB k = false) (w : World) :
    Calls Try.prog 16 #[.string s, .int .i64 p, .int .i64 k, .bool little] w fun e w' => e = numOf (getR s.data.toList p k little) ∧ w = w' := by
  go_enter Try.func16, Try.ntmps16
  go_wp2_with (go_at_call 11; refine (refGood_any _ _).mono ?_; rintro e w' ⟨rfl, rfl⟩)
  go_ret2
  exact ⟨numOf_mk (by simp [getR, h]), rfl⟩

theorem refGet_neg (s : ByteArray) (p : Int) (m : Nat) (little : Bool) (h : goodB (m : Int) = true) (hp : p < 0) (w : World) :
    Calls Try.prog 16 #[.string s, .int .i64 p, .int .i64 m, .bool little] w fun e w' => e = numOf (getR s.data.toList p m little) ∧ w = w' := by
  go_enter Try.func16, Try.ntmps16
  go_wp2_with (go_at_call 11; refine (refGood_any _ _).mono ?_; rintro e w' ⟨rfl, rfl⟩)
  go_ret2
  exact ⟨numOf_mk (by simp [getR, h]; omega), rfl⟩

theorem refGet_far1 (s : ByteArray) (p : Int) (m : Nat) (little : Bool) (h : goodB (m : Int) = true) (hs : s.size ≤ maxLen) (hp : (s.size : Int) < p) (w : World) :
    Calls Try.prog 16 #[.string s, .int .i64 p, .int .i64 m, .bool little] w fun e w' => e = numOf (getR s.data.toList p m little) ∧ w = w' := by
  obtain ⟨m1, m2⟩ := good_le h
  unfold maxLen at hs
  have h2 : ¬ p < 0 := by omega
  go_enter Try.func16, Try.ntmps16
  go_wp2_with (go_at_call 11; refine (refGood_any _ _).mono ?_; rintro e w' ⟨rfl, rfl⟩)
  go_ret2
  exact ⟨numOf_mk (by simp [getR, h]; omega), rfl⟩

theorem refGet_far2 (s : ByteArray) (p m : Nat) (little : Bool) (h : goodB (m : Int) = true) (hs : s.size ≤ maxLen) (hp0 : p ≤ s.size) (hp : s.size < p + m) (w : World) :
    Calls Try.prog 16 #[.string s, .int .i64 p, .int .i64 m, .bool little] w fun e w' => e = numOf (getR s.data.toList p m little) ∧ w = w' := by
  obtain ⟨m1, m2⟩ := good_le h
  unfold maxLen at hs
  have h2 : (s.size : Int) - (p : Int) < (m : Int) := by omega
  have h3 : ¬ (s.size : Int) < (p : Int) := by omega
  have HP := Lib.hid hp
  clear hp
  go_enter Try.func16, Try.ntmps16
  go_wp2_with (go_at_call 11; refine (refGood_any _ _).mono ?_; rintro e w' ⟨rfl, rfl⟩)
  go_ret2
  exact ⟨numOf_mk (by have := HP.out; simp [getR, h]; omega), rfl⟩

theorem drop_of (l : List UInt8) (m i : Nat) (hl : l.length = m) (hi : i < m) (b : UInt8) (h : l[m - 1 - i]? = some b) : decN (l.drop (m - (i + 1))) = b.toNat + 256 * decN (l.drop (m - i)) := by
  have e := drop_succ_dec l (m - 1 - i) b h
  rw [show m - (i + 1) = m - 1 - i from by omega, e, show m - 1 - i + 1 = m - i from by omega]

theorem placeN_turn {little : Bool} {i m : Nat} (h : i < m) : placeN little (m - 1 - i) m = if little then m - 1 - i else i := by
  unfold placeN
  cases little
  · simp only [Bool.false_eq_true, if_false]; omega
  · simp only [if_true]

theorem refGet_ok (s : ByteArray) (p m : Nat) (little : Bool) (h : goodB (m : Int) = true) (hs : s.size ≤ maxLen) (hp : p + m ≤ s.size) (w : World) :
    Calls Try.prog 16 #[.string s, .int .i64 p, .int .i64 m, .bool little] w fun e w' => e = numOf (getR s.data.toList p m little) ∧ w = w' := by
  obtain ⟨m1, m2⟩ := good_le h
  unfold maxLen at hs
  have h0 : decide ((p : Int) < 0) = false := by simp
  have h1 : decide (s.size < p) = false := by simp; omega
  have h2 : decide ((s.size : Int) - (p : Int) < (m : Int)) = false := by simp; omega
  have HL := Lib.hid (picked_length little (show p + m ≤ s.data.toList.length from by simpa using hp))
  have HR := Lib.hid (getR_ok s.data.toList p m little h (by simpa using hp))
  generalize hL : picked s.data.toList p m little = L at HL HR
  have HLL := Lib.hid hL
  clear hL
  go_enter Try.func16, Try.ntmps16
  go_wp2_with (go_at_call 11; refine (refGood_any _ _).mono ?_; rintro e w' ⟨rfl, rfl⟩)
  go_loop [11, 12] (fun x i => ∃ (k x' : Nat), k ≤ m ∧ i = .int .i64 k ∧ x = .int .u64 x' ∧ Hid (x' = decN (L.drop (m - k)))) (fun _ i => m - (intOf i).toNat)
  case atStart => exact ⟨0, 0, by omega, rfl, rfl, Lib.hid (by rw [List.drop_of_length_le (by rw [HL.out]; omega)]; rfl)⟩
  case round =>
    obtain ⟨k, x, hk, rfl, rfl, HX⟩ := hrel
    by_cases hlt : k < m
    · have hx0 : x < 256 ^ k := by rw [HX.out]; have := drop_dec_lt L (m - k); rwa [HL.out, show m - (m - k) = k from by omega] at this
      have hx : x < 72057594037927936 := Nat.lt_of_lt_of_le hx0 (show 256 ^ k ≤ 256 ^ 7 from Nat.pow_le_pow_right (by omega) (by omega))
      clear hx0
      cases little
      · have hpq : p + k < s.size := by omega
        have hb := byte_lt s[p + k]
        have HB := Lib.hid (drop_of L m k HL.out hlt s[p + k] (by rw [← HLL.out]; exact picked_at (by simpa using hp) (by omega) (by rw [placeN_turn hlt]; exact byteAt s hpq)))
        go_wp2
        go_round
        case rel =>
          refine ⟨k + 1, _, by omega, by go_num, ?_, Lib.hid HB.out.symm⟩
          rw [← HX.out]
          go_num
        case measure => simp [intOf]; omega
      · have hpq : p + (m - 1 - k) < s.size := by omega
        obtain ⟨q, HQ, hq⟩ : ∃ q : Nat, Hid (p + (m - 1 - k) = q) ∧ q < s.size := ⟨_, Lib.hid rfl, hpq⟩
        have hb := byte_lt s[q]
        have HB := Lib.hid (drop_of L m k HL.out hlt s[q] (by rw [← HLL.out]; exact picked_at (by simpa using hp) (by omega) (by rw [placeN_turn hlt]; simp only [if_true]; rw [HQ.out]; exact byteAt s hq)))
        clear hpq
        have hqi : (p : Int) + m - 1 - k = q := by have := HQ.out; omega
        go_wp2
        go_round
        case rel =>
          refine ⟨k + 1, _, by omega, by go_num, ?_, Lib.hid HB.out.symm⟩
          rw [← HX.out]
          go_num
        case measure => simp [intOf]; omega
    · obtain rfl : k = m := by omega
      go_wp2
      go_ret2
      exact ⟨numOf_mk (by rw [HR.out, HX.out, Nat.sub_self, List.drop_zero]), rfl⟩

/-- The document's Get. -/
theorem refGet_any (s : ByteArray) (p k : Int) (little : Bool) (hs : s.size ≤ maxLen) (w : World) :
    Calls Try.prog 16 #[.string s, .int .i64 p, .int .i64 k, .bool little] w fun e w' => e = numOf (getR s.data.toList p k little) ∧ w = w' := by
  by_cases h : goodB k = true
  · obtain ⟨m, rfl⟩ := Int.eq_ofNat_of_zero_le (a := k) (by have := good_le h; omega)
    by_cases h0 : p < 0
    · exact refGet_neg s p m little h h0 w
    · by_cases h1 : (s.size : Int) < p
      · exact refGet_far1 s p m little h hs h1 w
      · obtain ⟨q, rfl⟩ := Int.eq_ofNat_of_zero_le (a := p) (by omega)
        by_cases h2 : s.size < q + m
        · exact refGet_far2 s q m little h hs (by omega) h2 w
        · exact refGet_ok s q m little h hs (by omega) w
  · exact refGet_size s p k little (by simpa using h) w

end Go.Proofs.Ytoihfbcjiolcpaa
