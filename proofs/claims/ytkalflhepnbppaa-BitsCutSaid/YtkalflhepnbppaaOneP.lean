/- Plain mathematics of layer 3: one part turned. No program. -/
import Derived.Test.YtkalflhepnbppaaBitsP
namespace Go.Proofs.Ytkalflhepnbppaa
set_option linter.unusedVariables false
/-- Parts of two numbers that differ by a part at place i. -/
theorem part_xor_self {n b d c : Nat} (hc : c < 2 ^ d) : part (n ^^^ c * 2 ^ b) b d = part n b d ^^^ c := by
  apply Nat.eq_of_testBit_eq
  intro j
  rw [part_bit, Nat.testBit_xor, Nat.testBit_xor, part_bit, Nat.testBit_mul_two_pow]
  by_cases hj : j < d
  · simp [hj]
  · have h := Nat.testBit_lt_two_pow (Nat.lt_of_lt_of_le hc (Nat.pow_le_pow_right (n := 2) (by decide) (show d ≤ j by omega)))
    simp [hj, h]
theorem part_xor_other {n b d c b' d' : Nat} (hc : c < 2 ^ d) (h : b' + d' ≤ b ∨ b + d ≤ b') : part (n ^^^ c * 2 ^ b) b' d' = part n b' d' := by
  apply Nat.eq_of_testBit_eq
  intro j
  rw [part_bit, part_bit, Nat.testBit_xor, Nat.testBit_mul_two_pow]
  by_cases hj : j < d'
  · rcases h with h | h
    · have e : decide (b ≤ j + b') = false := by simp; omega
      simp [e]
    · have h := Nat.testBit_lt_two_pow (Nat.lt_of_lt_of_le hc (Nat.pow_le_pow_right (n := 2) (by decide) (show d ≤ j + b' - b by omega)))
      simp [h]
  · simp [hj]
theorem rst_far {l : List Int} {i k : Nat} (hi : i < l.length) (hk : k < l.length) (h : k ≠ i) : rst l (k + 1) + wd l k ≤ rst l (i + 1) ∨ rst l (i + 1) + wd l i ≤ rst l (k + 1) := by
  have h1 := rst_step hi
  have h2 := rst_step hk
  rcases Nat.lt_or_gt_of_ne h with h | h
  · right
    have := rst_mono (l := l) (i := k + 1) (k := i) (by omega)
    omega
  · left
    have := rst_mono (l := l) (i := i + 1) (k := k) (by omega)
    omega
/-- One part turned. -/
theorem parts_turn (n c : Nat) {l : List Int} {i : Nat} (hi : i < l.length) (hc : c < 2 ^ wd l i) :
    partsL (n ^^^ c * 2 ^ rst l (i + 1)) l = (partsL n l).set i ((part n (rst l (i + 1)) (wd l i) ^^^ c : Nat) : Int) := by
  apply ext_el (by rw [List.length_set, partsL_length, partsL_length])
  intro k hk
  rw [partsL_length] at hk
  rw [partsL_el _ _ _ hk]
  by_cases e : k = i
  · subst e
    rw [part_xor_self hc]
    simp [el, partsL_length, hk]
  · rw [part_xor_other hc (by have := rst_far hi hk e; omega)]
    unfold el
    rw [List.getElem?_set_ne (by omega)]
    exact (partsL_el n l k hk).symm
theorem xor_lt {t : Int} {n c : Nat} {l : List Int} (h : Goes t l) {i : Nat} (hi : i < l.length) (hn : n < 2 ^ t.toNat) (hc : c < 2 ^ wd l i) : n ^^^ c * 2 ^ rst l (i + 1) < 2 ^ t.toNat := by
  apply Nat.xor_lt_two_pow hn
  have h1 := rst_step hi
  have h2 := rst_mono (l := l) (i := 0) (k := i) (by omega)
  have h3 := goes_rst_zero h
  calc c * 2 ^ rst l (i + 1) < 2 ^ wd l i * 2 ^ rst l (i + 1) := Nat.mul_lt_mul_of_pos_right hc (Nat.pow_pos (by decide))
    _ = 2 ^ rst l i := by rw [h1, Nat.pow_add]
    _ ≤ 2 ^ t.toNat := Nat.pow_le_pow_right (by decide) (by omega)
theorem xor_back (n x : Nat) : (n ^^^ x) ^^^ n = x := by
  rw [Nat.xor_comm n x, Nat.xor_assoc, Nat.xor_self, Nat.xor_zero]
end Go.Proofs.Ytkalflhepnbppaa
