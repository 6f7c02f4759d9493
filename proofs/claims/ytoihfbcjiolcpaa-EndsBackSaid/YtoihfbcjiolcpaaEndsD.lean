/- Contracts of layer 2: the document's Put. -/
import Derived.Test.YtoihfbcjiolcpaaEndsC
namespace Go.Proofs.Ytoihfbcjiolcpaa
open Go.ChangeShapes Go.WideShapes Go.ChangeAt Go.RowKit
set_option linter.unusedVariables false

theorem refPut_size (n k : Int) (little : Bool) (h : goodB k = false) (w : World) :
    Calls Try.prog 9 #[.int .u64 n, .int .i64 k, .bool little] w (PairPost (putR n k little) w) := by
  go_enter Try.func9, Try.ntmps9
  go_wp2_with (go_at_call 11; refine (refGood_any _ _).mono ?_; rintro e w' ⟨rfl, rfl⟩)
  go_ret2
  exact PairPost.mk (by simp [putR, h]) (Below.refl _ _)

set_option maxHeartbeats 400000 in
theorem refPut_good (n m : Nat) (little : Bool) (hn : n < 18446744073709551616) (h : goodB (m : Int) = true) (w : World) :
    Calls Try.prog 9 #[.int .u64 n, .int .i64 m, .bool little] w (PairPost (putR n m little) w) := by
  obtain ⟨m1, m2⟩ := good_le h
  obtain ⟨i0, hi, hz0, hz1, hz2⟩ := info_parts info_u8
  go_enter Try.func9, Try.ntmps9
  go_wp2_with (go_at_call 11; refine (refGood_any _ _).mono ?_; rintro e w' ⟨rfl, rfl⟩)
  go_loopw [0, 9, 10] (fun x u i wr => ∃ (k x' : Nat) (v : Value), k ≤ m ∧ v = u ∧ i = .int .i64 k ∧ x = .int .u64 x' ∧ x' < 18446744073709551616 ∧ Hid (x' = n / 256 ^ k) ∧ Own 5 .u8 w.heap.size wr v (bytesI (encN n k)) ∧ Below w.heap.size w wr) (fun _ _ i _ => m - (intOf i).toNat)
  case atStart => exact ⟨0, n, _, by omega, rfl, rfl, rfl, hn, Lib.hid (by simp), Own.nil .., Below.refl _ _⟩
  case round =>
    obtain ⟨k, x, u, hk, rfl, rfl, rfl, hx, HX, hown, hb⟩ := hrel
    by_cases hlt : k < m
    · have hlen : (bytesI (encN n k)).length = k := by rw [bytesI_length, encN_length]
      have h1 : (bytesI (encN n k)).length + 1 ≤ maxLen := by unfold maxLen; omega
      have h2 : ((bytesI (encN n k)).length + 1) * 1 ≤ 140737488355328 := by omega
      have h3 := hb.size
      have H := Lib.hid hown
      clear hown hlen
      go_wp2_with (at_builtin; refine append_own1 rfl _ _ 43 rfl w.heap.size 5 i0 (.int .u8 0) 1 Try.underlying43 hi hz0 hz1 hz2 rfl .u8 u _ _ rfl H.out _ rfl h1 h2 h3 ?_; intro v' w1 hown1 hb1)
      go_roundw
      case rel =>
        refine ⟨k + 1, x / 256, _, by omega, rfl, by go_num, by go_num, by omega, Lib.hid (by rw [HX.out, Nat.div_div_eq_div_mul, Nat.pow_succ]), ?_, hb.trans hb1⟩
        rw [encN_snoc, bytesI_append, ← HX.out]
        have e : bytesI [UInt8.ofNat (x % 256)] = [(x : Int) % 256] := by simp only [bytesI, List.map_cons, List.map_nil, toNat_ofNat]; simp
        rw [e]
        exact hown1
      case measure => simp [intOf]; omega
    · obtain rfl : k = m := by omega
      have ht := text_own Try.underlying43 Try.underlying5 Try.underlying9 wr _ _ _ hown
      have HT := Lib.hid ht
      clear ht
      have hT := fun w => refTurn_any ⟨(encN n k).toArray⟩ (by simp [ByteArray.size, encN_length]; omega) w
      have HR := Lib.hid hT
      clear hT
      by_cases hf : n < 256 ^ k
      · obtain rfl : x = 0 := by rw [HX.out]; exact Nat.div_eq_of_lt hf
        cases little
        · go_wp2_with (first | (simp only [HT.out]) | ((with_reducible refine (HR.out _).mono ?_); rintro e w2 ⟨rfl, hb2⟩))
          go_ret2
          exact PairPost.mk (by simp [putR, h, hf, orient]) (hb.trans (hb2.mono hb.size))
        · go_wp2_with (simp only [HT.out])
          go_ret2
          exact PairPost.mk (by simp [putR, h, hf, orient]) hb
      · have hx0 : 0 < x := by rw [HX.out]; exact Nat.div_pos (by omega) (Nat.pow_pos (by decide))
        have hx1 : ((x : Int) != 0) = true := by rw [bne_iff_ne]; omega
        have HF := Lib.hid hf
        clear hf
        go_wp2
        go_ret2
        exact PairPost.mk (by simp [putR, h, HF.out]) hb

/-- The document's Put. -/
theorem refPut_any (n k : Int) (little : Bool) (hn : W64 n) (w : World) :
    Calls Try.prog 9 #[.int .u64 n, .int .i64 k, .bool little] w (PairPost (putR n k little) w) := by
  by_cases h : goodB k = true
  · obtain ⟨a, rfl, ha⟩ := u64_nat hn
    obtain ⟨m, rfl⟩ := Int.eq_ofNat_of_zero_le (a := k) (by have := good_le h; omega)
    exact refPut_good a m little ha h w
  · exact refPut_size n k little (by simpa using h) w

end Go.Proofs.Ytoihfbcjiolcpaa
