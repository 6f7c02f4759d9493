/- Plain mathematics of layer 1: numbers as lists of bits, the lowest first. No program. -/
import Derived.Test.YtoengahfkfmfeaaWordP
import Derived.Test.YtoengahfkfmfeaaSlice
set_option linter.unusedVariables false
set_option linter.unusedSimpArgs false
namespace Go.Proofs.Ytoengahfkfmfeaa

def val : List Int → Int
  | [] => 0
  | x :: r => x + 2 * val r

def allBits (l : List Int) : Prop := ∀ j : Nat, l[j]?.getD 0 = 0 ∨ l[j]?.getD 0 = 1

theorem mul2 (a p : Int) : 2 * (a * p) = a * (p * 2) := by rw [Int.mul_comm 2, Int.mul_assoc]

theorem val_append (l r : List Int) : val (l ++ r) = val l + 2 ^ l.length * val r := by
  induction l with
  | nil => simp [val]
  | cons x l ih =>
    simp only [List.cons_append, val, ih, List.length_cons, Int.pow_succ, Int.mul_add]
    rw [Int.mul_comm (2 ^ l.length) 2, Int.mul_assoc]
    omega
theorem val_set (l : List Int) (j : Nat) (x : Int) (hj : j < l.length) : val (l.set j x) = val l + (x - l[j]?.getD 0) * 2 ^ j := by
  induction l generalizing j with
  | nil => simp at hj
  | cons y l ih =>
    cases j with
    | zero => simp [val]; omega
    | succ j =>
      simp only [List.set_cons_succ, val, List.getElem?_cons_succ, Int.pow_succ]
      rw [ih j (by simpa using hj), Int.mul_add, mul2]
      omega
theorem val_take_succ (l : List Int) (j : Nat) : val (l.take (j + 1)) = val (l.take j) + l[j]?.getD 0 * 2 ^ j := by
  induction l generalizing j with
  | nil => simp [val]
  | cons y l ih =>
    cases j with
    | zero => simp [val]
    | succ j =>
      simp only [List.take_succ_cons, val, List.getElem?_cons_succ, Int.pow_succ]
      rw [ih j, Int.mul_add, mul2]
      omega
theorem val_drop (l : List Int) (j : Nat) : val (l.drop j) = l[j]?.getD 0 + 2 * val (l.drop (j + 1)) := by
  by_cases h : j < l.length
  · rw [List.drop_eq_getElem_cons h]
    simp [val, h]
  · rw [List.drop_eq_nil_of_le (by omega), List.drop_eq_nil_of_le (by omega)]
    simp [val, h]
theorem val_replicate (n : Nat) : val (List.replicate n 0) = 0 := by
  induction n with
  | zero => rfl
  | succ n ih => simp [List.replicate_succ, val, ih]
theorem allBits.val_nonneg {l : List Int} (h : allBits l) : 0 ≤ val l := by
  induction l with
  | nil => exact Int.le_refl 0
  | cons x l ih =>
    have h0 := h 0
    have h1 := ih (fun j => by have := h (j + 1); simpa using this)
    simp at h0
    simp only [val]
    omega
theorem allBits.val_lt {l : List Int} (h : allBits l) : val l < 2 ^ l.length := by
  induction l with
  | nil => decide
  | cons x l ih =>
    have h0 := h 0
    have h1 := ih (fun j => by have := h (j + 1); simpa using this)
    simp at h0
    simp only [val, List.length_cons, Int.pow_succ]
    omega
theorem allBits.take {l : List Int} (h : allBits l) (n : Nat) : allBits (l.take n) := by
  intro j
  have := h j
  rw [List.getElem?_take]
  split
  · exact this
  · exact .inl rfl
theorem allBits.drop {l : List Int} (h : allBits l) (n : Nat) : allBits (l.drop n) := by
  intro j
  have := h (n + j)
  rw [List.getElem?_drop]
  exact this
theorem allBits.set {l : List Int} (h : allBits l) (j : Nat) (x : Int) (hx : x = 0 ∨ x = 1) : allBits (l.set j x) := by
  intro i
  have := h i
  rw [List.getElem?_set]
  split
  · split
    · simpa using hx
    · exact .inl rfl
  · exact this

/-- The bits below place i of a, in 64 places. -/
def bitsTo (a : Int) (i : Nat) : List Int := (List.range 64).map fun j => if j < i then a / 2 ^ j % 2 else 0
def bitsL (a : Int) : List Int := bitsTo a 64
theorem bitsTo_length (a : Int) (i : Nat) : (bitsTo a i).length = 64 := by simp [bitsTo]
theorem bitsTo_get (a : Int) (i j : Nat) (hj : j < 64) : (bitsTo a i)[j]?.getD 0 = if j < i then a / 2 ^ j % 2 else 0 := by
  simp [bitsTo, hj]
theorem bitsTo_zero (a : Int) : bitsTo a 0 = List.replicate 64 0 := by simp [bitsTo]; rfl
theorem bitsTo_succ (a : Int) (i : Nat) : bitsTo a (i + 1) = (bitsTo a i).set i (a / 2 ^ i % 2) := by
  apply List.ext_getElem?
  intro j
  by_cases hj : j < 64
  · rw [List.getElem?_set]
    by_cases e : i = j
    · subst e; simp [bitsTo, hj]
    · rw [if_neg e]
      simp only [bitsTo, List.getElem?_map, List.getElem?_range hj, Option.map_some]
      by_cases h : j < i
      · rw [if_pos h, if_pos (by omega)]
      · rw [if_neg h, if_neg (by omega)]
  · rw [List.getElem?_eq_none (by rw [bitsTo_length]; omega), List.getElem?_eq_none (by rw [List.length_set, bitsTo_length]; omega)]
theorem bitsL_length (a : Int) : (bitsL a).length = 64 := bitsTo_length a 64
theorem bitsL_get (a : Int) (j : Nat) (hj : j < 64) : (bitsL a)[j]?.getD 0 = a / 2 ^ j % 2 := by
  rw [bitsL, bitsTo_get a 64 j hj, if_pos hj]
theorem bitsL_bits (a : Int) : allBits (bitsL a) := by
  intro j
  by_cases hj : j < 64
  · rw [bitsL_get a j hj]; omega
  · rw [List.getElem?_eq_none (by rw [bitsL_length]; omega)]; exact .inl rfl
theorem val_bitsL_take (a : Int) (ha : 0 ≤ a) (j : Nat) (hj : j ≤ 64) : val ((bitsL a).take j) + a / 2 ^ j * 2 ^ j = a := by
  induction j with
  | zero => simp [val]
  | succ j ih =>
    have h := ih (by omega)
    rw [val_take_succ, bitsL_get a j (by omega)]
    have e : a / 2 ^ (j + 1) = a / 2 ^ j / 2 := by rw [Int.pow_succ, Int.ediv_ediv_of_nonneg (Int.le_of_lt (pow2_pos j))]
    rw [e, Int.pow_succ]
    generalize (2 : Int) ^ j = p at *
    generalize a / p = q at *
    have e2 : q * p = q % 2 * p + q / 2 * (p * 2) := by
      rw [Int.mul_comm p 2, ← Int.mul_assoc, ← Int.add_mul]
      congr 1
      omega
    omega
theorem val_bitsL (a : Int) (ha : W64 a) : val (bitsL a) = a := by
  have h := val_bitsL_take a ha.1 64 (by omega)
  rw [List.take_of_length_le (by rw [bitsL_length]; omega)] at h
  have e : a / 2 ^ 64 = 0 := Int.ediv_eq_zero_of_lt ha.1 (by have := ha.2; omega)
  rw [e] at h
  omega

/-- What holds of the sum's bits after i places. -/
def PInv (o la lb : List Int) (i n : Nat) : Prop :=
  o.length = n + 1 ∧ allBits o ∧ (∀ j : Nat, i < j → o[j]?.getD 0 = 0) ∧ val o = val (la.take i) + val (lb.take i)
theorem PInv.start (la lb : List Int) (n : Nat) : PInv (List.replicate (n + 1) 0) la lb 0 n := by
  refine ⟨by simp, fun j => .inl ?_, fun j _ => ?_, by simp [val_replicate, val]⟩
  all_goals
    rw [List.getElem?_replicate]
    split <;> rfl
theorem PInv.step {o la lb : List Int} {i n : Nat} (h : PInv o la lb i n) (ha : allBits la) (hb : allBits lb) (hi : i < n) (s : Int) (hs : s = o[i]?.getD 0 + la[i]?.getD 0 + lb[i]?.getD 0) :
    PInv ((o.set i (s % 2)).set (i + 1) (s / 2)) la lb (i + 1) n := by
  obtain ⟨h1, h2, h3, h4⟩ := h
  have b1 := h2 i
  have b2 := ha i
  have b3 := hb i
  have z := h3 (i + 1) (by omega)
  refine ⟨by simpa using h1, (h2.set i _ (by omega)).set (i + 1) _ (by omega), fun j hj => ?_, ?_⟩
  · rw [List.getElem?_set_ne (by omega), List.getElem?_set_ne (by omega)]
    exact h3 j (by omega)
  · rw [val_set _ _ _ (by rw [List.length_set]; omega), val_set _ _ _ (by omega), h4, val_take_succ, val_take_succ, List.getElem?_set_ne (by omega), z, Int.pow_succ]
    generalize (2 : Int) ^ i = p
    have e : (s % 2 - o[i]?.getD 0) * p + (s / 2 - 0) * (p * 2) = la[i]?.getD 0 * p + lb[i]?.getD 0 * p := by
      rw [← Int.add_mul, Int.mul_comm p 2, ← Int.mul_assoc, ← Int.add_mul]
      congr 1
      omega
    omega
theorem PInv.done {o la lb : List Int} {n : Nat} (h : PInv o la lb n n) (ha : la.length ≤ n) (hb : lb.length ≤ n) : val o = val la + val lb := by
  have := h.2.2.2
  rwa [List.take_of_length_le ha, List.take_of_length_le hb] at this

end Go.Proofs.Ytoengahfkfmfeaa
