/- Plain mathematics of layer 2, without a program: numbers as bytes. -/
import Derived.WalkKit
namespace Go.Proofs.Ytoihfbcjiolcpaa
set_option linter.unusedVariables false

/-- The valid sizes. -/
def goodB (k : Int) : Bool := k == 1 || k == 2 || k == 3 || k == 4 || k == 8
theorem good_le {k : Int} (h : goodB k = true) : 1 ≤ k ∧ k ≤ 8 := by
  simp [goodB] at h; omega

/-- The encoding, the least byte first. -/
def encN : Nat → Nat → List UInt8
  | _, 0 => []
  | n, k + 1 => UInt8.ofNat (n % 256) :: encN (n / 256) k
/-- The number of bytes, the least first. -/
def decN : List UInt8 → Nat
  | [] => 0
  | b :: l => b.toNat + 256 * decN l
def orient (little : Bool) (l : List UInt8) : List UInt8 := if little then l else l.reverse

def putR (n k : Int) (little : Bool) : List UInt8 × Int :=
  if goodB k = true then (if n.toNat < 256 ^ k.toNat then (orient little (encN n.toNat k.toNat), 0) else ([], 5)) else ([], 2)
def getR (s : List UInt8) (at_ k : Int) (little : Bool) : Int × Int :=
  if goodB k = true then (if 0 ≤ at_ ∧ at_ + k ≤ s.length then ((decN (orient little ((s.drop at_.toNat).take k.toNat)) : Nat), 0) else (0, 3)) else (0, 2)

theorem toNat_ofNat (n : Nat) : (UInt8.ofNat (n % 256)).toNat = n % 256 := by simp [UInt8.toNat_ofNat']
theorem byte_lt (b : UInt8) : b.toNat < 256 := b.toNat_lt

theorem encN_length (n k : Nat) : (encN n k).length = k := by
  induction k generalizing n with
  | zero => rfl
  | succ k ih => simp [encN, ih]
theorem encN_snoc (n k : Nat) : encN n (k + 1) = encN n k ++ [UInt8.ofNat (n / 256 ^ k % 256)] := by
  induction k generalizing n with
  | zero => simp [encN]
  | succ k ih =>
    rw [encN, ih, encN, Nat.div_div_eq_div_mul, Nat.pow_succ, Nat.mul_comm 256]
    rfl
theorem decN_encN (n k : Nat) : decN (encN n k) = n % 256 ^ k := by
  induction k generalizing n with
  | zero => simp [encN, decN, Nat.mod_one]
  | succ k ih =>
    rw [encN, decN, ih, toNat_ofNat, Nat.pow_succ, Nat.mul_comm _ 256, Nat.mod_mul]
theorem decN_lt (l : List UInt8) : decN l < 256 ^ l.length := by
  induction l with
  | nil => simp [decN]
  | cons b l ih =>
    have := byte_lt b
    rw [decN, List.length_cons, Nat.pow_succ]
    omega
theorem encN_decN (l : List UInt8) : encN (decN l) l.length = l := by
  induction l with
  | nil => rfl
  | cons b l ih =>
    have hb := byte_lt b
    rw [decN, List.length_cons, encN, show (b.toNat + 256 * decN l) % 256 = b.toNat from by omega, show (b.toNat + 256 * decN l) / 256 = decN l from by omega, ih]
    simp
theorem decN_snoc (l : List UInt8) (b : UInt8) : decN (l ++ [b]) = decN l + 256 ^ l.length * b.toNat := by
  induction l with
  | nil => simp [decN]
  | cons c l ih =>
    rw [List.cons_append, decN, ih, decN, List.length_cons, Nat.pow_succ, Nat.mul_add, Nat.mul_comm _ 256, Nat.mul_assoc]
    omega

theorem orient_length (b : Bool) (l : List UInt8) : (orient b l).length = l.length := by cases b <;> simp [orient]
theorem orient_orient (b : Bool) (l : List UInt8) : orient b (orient b l) = l := by cases b <;> simp [orient]
theorem orient_not (l : List UInt8) : orient true l = (orient false l).reverse := by simp [orient]

/-- Where the byte of a rank stands. -/
def placeN (little : Bool) (r m : Nat) : Nat := if little then r else m - 1 - r
theorem placeN_lt {little : Bool} {r m : Nat} (h : r < m) : placeN little r m < m := by unfold placeN; split <;> omega
theorem orient_get (little : Bool) (l : List UInt8) (r : Nat) (h : r < l.length) : (orient little l)[placeN little r l.length]? = l[r]? := by
  cases little
  · simp only [orient, placeN, Bool.false_eq_true, if_false]
    rw [List.getElem?_reverse (by omega)]
    congr 1; omega
  · simp [orient, placeN]
theorem orient_get' (little : Bool) (l : List UInt8) (r : Nat) (h : r < l.length) : (orient little l)[r]? = l[placeN little r l.length]? := by
  cases little
  · simp only [orient, placeN, Bool.false_eq_true, if_false]
    rw [List.getElem?_reverse (by omega)]
  · simp [orient, placeN]

/-- What a buffer of m bytes holds when k of them are written. -/
def putTo (n m : Nat) (little : Bool) (k : Nat) : List UInt8 := orient little (encN n k ++ List.replicate (m - k) 0)
theorem putTo_length (n m : Nat) (little : Bool) {k : Nat} (h : k ≤ m) : (putTo n m little k).length = m := by
  rw [putTo, orient_length, List.length_append, encN_length, List.length_replicate]; omega
theorem putTo_zero (n m : Nat) (little : Bool) : putTo n m little 0 = List.replicate m 0 := by
  cases little <;> simp [putTo, orient, encN]
theorem putTo_all (n m : Nat) (little : Bool) : putTo n m little m = orient little (encN n m) := by simp [putTo]
theorem putTo_succ (n m : Nat) (little : Bool) {k : Nat} (h : k < m) :
    putTo n m little (k + 1) = (putTo n m little k).set (placeN little k m) (UInt8.ofNat (n / 256 ^ k % 256)) := by
  have e : encN n (k + 1) ++ List.replicate (m - (k + 1)) 0 = (encN n k ++ List.replicate (m - k) 0).set k (UInt8.ofNat (n / 256 ^ k % 256)) := by
    rw [show m - k = (m - (k + 1)) + 1 from by omega, List.replicate_succ, encN_snoc, List.append_assoc]
    rw [List.set_append_right _ _ (by rw [encN_length]; omega), encN_length, Nat.sub_self]
    rfl
  unfold putTo
  rw [e]
  cases little
  · simp only [orient, placeN, Bool.false_eq_true, if_false]
    apply List.ext_getElem?
    intro i
    by_cases hi : i < m
    · have hl : (encN n k ++ List.replicate (m - k) 0).length = m := by rw [List.length_append, encN_length, List.length_replicate]; omega
      rw [List.getElem?_reverse (by rw [List.length_set]; omega), List.length_set, hl, List.getElem?_set, List.getElem?_set, List.length_reverse, hl, List.getElem?_reverse (by omega), hl]
      by_cases hk : k = m - 1 - i
      · rw [if_pos hk, if_pos (by omega), if_pos (by omega), if_pos (by omega)]
      · rw [if_neg hk, if_neg (by omega)]
    · rw [List.getElem?_eq_none, List.getElem?_eq_none]
      · simp [encN_length]; omega
      · simp [encN_length]; omega
  · simp [orient, placeN]

/-- What a buffer holds when the first k bytes of a list are turned round into it. -/
def turnTo (l : List UInt8) (k : Nat) : List UInt8 := List.replicate (l.length - k) 0 ++ (l.take k).reverse
theorem turnTo_length (l : List UInt8) {k : Nat} (h : k ≤ l.length) : (turnTo l k).length = l.length := by
  simp [turnTo, Nat.min_eq_left h]; omega
theorem turnTo_zero (l : List UInt8) : turnTo l 0 = List.replicate l.length 0 := by simp [turnTo]
theorem turnTo_all (l : List UInt8) : turnTo l l.length = l.reverse := by simp [turnTo]
theorem turnTo_succ {l : List UInt8} {k n : Nat} (hn : l.length = n) (h : k < n) (b : UInt8) (hb : l[k]? = some b) : turnTo l (k + 1) = (turnTo l k).set (n - 1 - k) b := by
  subst hn
  obtain rfl : l[k] = b := by rw [List.getElem?_eq_getElem h] at hb; exact Option.some.inj hb
  unfold turnTo
  rw [List.take_succ_eq_append_getElem h, List.reverse_append]
  rw [show l.length - k = (l.length - (k + 1)) + 1 from by omega, List.replicate_succ', List.append_assoc]
  rw [List.set_append_right _ _ (by rw [List.length_replicate]; omega), List.length_replicate, show l.length - 1 - k - (l.length - (k + 1)) = 0 from by omega]
  simp

theorem revTake_succ {l : List UInt8} {k n : Nat} (hn : l.length = n) (h : k < n) (b : UInt8) (hb : l[n - 1 - k]? = some b) : l.reverse.take (k + 1) = l.reverse.take k ++ [b] := by
  subst hn
  have e : l.reverse[k]? = some b := by rw [List.getElem?_reverse h]; exact hb
  rw [List.take_add_one, e]
  rfl

theorem pow256 (k : Nat) : 256 ^ k = 2 ^ (8 * k) := by rw [Nat.pow_mul]

/-- One byte more from above. -/
theorem or_byte {n k b : Nat} (h : n < 256 ^ k) : n ||| (b * 2 ^ (8 * k)) = n + 256 ^ k * b := by
  rw [pow256] at *
  rw [Nat.or_comm, Nat.mul_comm b, ← Nat.two_pow_add_eq_or_of_lt h]
  omega

theorem take_succ_dec (l : List UInt8) (k : Nat) (b : UInt8) (h : l[k]? = some b) : decN (l.take (k + 1)) = decN (l.take k) + 256 ^ k * b.toNat := by
  have hk : k < l.length := by
    rcases Nat.lt_or_ge k l.length with h' | h'
    · exact h'
    · rw [List.getElem?_eq_none h'] at h; cases h
  have hb : l[k] = b := by rw [List.getElem?_eq_getElem hk] at h; exact Option.some.inj h
  rw [List.take_succ_eq_append_getElem hk, decN_snoc, List.length_take, Nat.min_eq_left (by omega), hb]
theorem take_dec_lt (l : List UInt8) (k : Nat) (h : k ≤ l.length) : decN (l.take k) < 256 ^ k := by
  have := decN_lt (l.take k)
  rwa [List.length_take, Nat.min_eq_left h] at this
theorem drop_succ_dec (l : List UInt8) (k : Nat) (b : UInt8) (h : l[k]? = some b) : decN (l.drop k) = b.toNat + 256 * decN (l.drop (k + 1)) := by
  have hk : k < l.length := by
    rcases Nat.lt_or_ge k l.length with h' | h'
    · exact h'
    · rw [List.getElem?_eq_none h'] at h; cases h
  have hb : l[k] = b := by rw [List.getElem?_eq_getElem hk] at h; exact Option.some.inj h
  rw [List.drop_eq_getElem_cons hk, decN, hb]
theorem drop_dec_lt (l : List UInt8) (k : Nat) : decN (l.drop k) < 256 ^ (l.length - k) := by
  have := decN_lt (l.drop k)
  rwa [List.length_drop] at this
theorem pow256_le {k : Nat} (h : k ≤ 8) : 256 ^ k ≤ 18446744073709551616 := by
  have : (256 : Nat) ^ k ≤ 256 ^ 8 := Nat.pow_le_pow_right (by omega) h
  exact this

end Go.Proofs.Ytoihfbcjiolcpaa
