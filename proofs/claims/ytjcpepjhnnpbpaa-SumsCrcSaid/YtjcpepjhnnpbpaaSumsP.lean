/- Plain mathematics of layer 4: the Adler-32 and the CRC-32 of a list of bytes. No program. -/
import Derived.WalkKit
namespace Go.Proofs.Ytjcpepjhnnpbpaa
set_option linter.unusedVariables false

/-! ### Adler-32 -/
/-- One byte more: the low and the high half. -/
def adStep (p : Nat × Nat) (c : UInt8) : Nat × Nat := ((p.1 + c.toNat) % 65521, (p.2 + (p.1 + c.toNat) % 65521) % 65521)
def ad (l : List UInt8) : Nat × Nat := l.foldl adStep (1, 0)
def adV (l : List UInt8) : Nat := (ad l).2 * 65536 + (ad l).1

theorem ad_take_succ (l : List UInt8) (k : Nat) (b : UInt8) (h : l[k]? = some b) : ad (l.take (k + 1)) = adStep (ad (l.take k)) b := by
  rw [List.take_add_one, h]
  simp [ad, List.foldl_append]
theorem adFold_lt (l : List UInt8) (p : Nat × Nat) (h1 : p.1 < 65521) (h2 : p.2 < 65521) : (l.foldl adStep p).1 < 65521 ∧ (l.foldl adStep p).2 < 65521 := by
  induction l generalizing p with
  | nil => exact ⟨h1, h2⟩
  | cons c l ih => exact ih _ (Nat.mod_lt _ (by decide)) (Nat.mod_lt _ (by decide))
theorem ad_lt (l : List UInt8) : (ad l).1 < 65521 ∧ (ad l).2 < 65521 := adFold_lt l _ (by decide) (by decide)

/-- The sum of the bytes, and the sum of the sums. -/
def sumA : List UInt8 → Nat
  | [] => 0
  | c :: l => c.toNat + sumA l
def sumB : List UInt8 → Nat
  | [] => 0
  | c :: l => (l.length + 1) * c.toNat + sumB l

theorem mod_of {x y : Nat} (m : Nat) (h : x % m = y % m) : x % m = y % m := h

theorem adFold_eq (l : List UInt8) (p : Nat × Nat) :
    (l.foldl adStep p).1 % 65521 = (p.1 + sumA l) % 65521 ∧ (l.foldl adStep p).2 % 65521 = (p.2 + l.length * p.1 + sumB l) % 65521 := by
  induction l generalizing p with
  | nil => simp [sumA, sumB]
  | cons c l ih =>
    obtain ⟨h1, h2⟩ := ih (adStep p c)
    rw [List.foldl_cons, h1, h2]
    refine ⟨?_, ?_⟩
    · simp only [adStep, sumA]
      omega
    · simp only [adStep, sumB, List.length_cons]
      have e : (l.length * ((p.1 + c.toNat) % 65521)) % 65521 = (l.length * (p.1 + c.toNat)) % 65521 := by rw [Nat.mul_mod, Nat.mod_mod, ← Nat.mul_mod]
      have e2 : (l.length + 1) * p.1 = l.length * p.1 + p.1 := by rw [Nat.add_mul]; omega
      have e3 : (l.length + 1) * c.toNat = l.length * c.toNat + c.toNat := by rw [Nat.add_mul]; omega
      have e4 : l.length * (p.1 + c.toNat) = l.length * p.1 + l.length * c.toNat := Nat.mul_add ..
      rw [e2, e3]
      rw [e4] at e
      generalize l.length * ((p.1 + c.toNat) % 65521) = x at *
      generalize l.length * p.1 = y at *
      generalize l.length * c.toNat = z at *
      omega

theorem ad_one (l : List UInt8) : (ad l).1 = (1 + sumA l) % 65521 ∧ (ad l).2 = (l.length + sumB l) % 65521 := by
  have h := adFold_eq l (1, 0)
  have h' := ad_lt l
  unfold ad at *
  simp only [Nat.mul_one, Nat.zero_add] at h
  rw [Nat.mod_eq_of_lt h'.1, Nat.mod_eq_of_lt h'.2] at h
  exact h

theorem sumA_append (l m : List UInt8) : sumA (l ++ m) = sumA l + sumA m := by
  induction l with
  | nil => simp [sumA]
  | cons c l ih => simp [sumA, ih]; omega
theorem sumB_append (l m : List UInt8) : sumB (l ++ m) = sumB l + m.length * sumA l + sumB m := by
  induction l with
  | nil => simp [sumB, sumA]
  | cons c l ih =>
    simp only [List.cons_append, sumB, sumA, ih, List.length_append, Nat.mul_add, Nat.add_mul]
    omega

/-- The document's Join of two good checksums, by halves. -/
def joinLow (a b : Nat) : Nat := (b + (a + 65520) % 65521) % 65521
def joinHigh (a a' b' n : Nat) : Nat := (a' + b' + n % 65521 * ((a + 65520) % 65521)) % 65521

theorem ad_append (l m : List UInt8) : ad (l ++ m) = (joinLow (ad l).1 (ad m).1, joinHigh (ad l).1 (ad l).2 (ad m).2 m.length) := by
  obtain ⟨l1, l2⟩ := ad_one l
  obtain ⟨m1, m2⟩ := ad_one m
  obtain ⟨r1, r2⟩ := ad_one (l ++ m)
  refine Prod.ext ?_ ?_
  · show (ad (l ++ m)).1 = joinLow _ _
    rw [r1, sumA_append, joinLow, l1, m1]
    omega
  · show (ad (l ++ m)).2 = joinHigh _ _ _ _
    rw [r2, sumB_append, List.length_append, joinHigh, l1, l2, m2]
    have e0 : ((1 + sumA l) % 65521 + 65520) % 65521 = sumA l % 65521 := by omega
    have e1 : (m.length % 65521 * (sumA l % 65521)) % 65521 = (m.length * sumA l) % 65521 := (Nat.mul_mod ..).symm
    rw [e0]
    generalize m.length % 65521 * (sumA l % 65521) = x at *
    generalize m.length * sumA l = y at *
    omega

/-! ### CRC-32 -/
def crcBit (r : Nat) : Nat := if r % 2 = 1 then r / 2 ^^^ 3988292384 else r / 2
def crcBits : Nat → Nat → Nat
  | 0, r => r
  | k + 1, r => crcBit (crcBits k r)
/-- Eight times. -/
def crcByte (r : Nat) : Nat := crcBits 8 r
def crcStep (r : Nat) (c : UInt8) : Nat := crcByte (r ^^^ c.toNat)
def crcFold (r : Nat) (l : List UInt8) : Nat := l.foldl crcStep r
def crcV (l : List UInt8) : Nat := 4294967295 - crcFold 4294967295 l

theorem crcBit_lt {r : Nat} (h : r < 4294967296) : crcBit r < 4294967296 := by
  unfold crcBit
  split
  · exact Nat.xor_lt_two_pow (n := 32) (by omega) (by decide)
  · omega
theorem crcBits_lt (k : Nat) {r : Nat} (h : r < 4294967296) : crcBits k r < 4294967296 := by
  induction k with
  | zero => exact h
  | succ k ih => exact crcBit_lt ih
theorem byte_xor_lt {r : Nat} (h : r < 4294967296) (c : UInt8) : r ^^^ c.toNat < 4294967296 :=
  Nat.xor_lt_two_pow (n := 32) h (by have := c.toNat_lt; omega)
theorem crcStep_lt {r : Nat} (h : r < 4294967296) (c : UInt8) : crcStep r c < 4294967296 := crcBits_lt 8 (byte_xor_lt h c)
theorem crcFold_lt {r : Nat} (h : r < 4294967296) (l : List UInt8) : crcFold r l < 4294967296 := by
  induction l generalizing r with
  | nil => exact h
  | cons c l ih => exact ih (crcStep_lt h c)
theorem crcFold_take_succ (r : Nat) (l : List UInt8) (k : Nat) (b : UInt8) (h : l[k]? = some b) : crcFold r (l.take (k + 1)) = crcStep (crcFold r (l.take k)) b := by
  rw [List.take_add_one, h]
  simp [crcFold, List.foldl_append]
theorem crcFold_append (r : Nat) (l m : List UInt8) : crcFold r (l ++ m) = crcFold (crcFold r l) m := by simp [crcFold, List.foldl_append]

/-! The register's bits do not influence each other. -/
theorem xor_swap (a b c : Nat) : (a ^^^ b) ^^^ c = (a ^^^ c) ^^^ b := by rw [Nat.xor_assoc, Nat.xor_comm b c, ← Nat.xor_assoc]
theorem xor_four (a b p q : Nat) : (a ^^^ p) ^^^ (b ^^^ q) = (a ^^^ b) ^^^ (p ^^^ q) := by
  rw [Nat.xor_assoc, ← Nat.xor_assoc p, Nat.xor_comm p b, Nat.xor_assoc b, ← Nat.xor_assoc]
theorem xor_div2 (a b : Nat) : (a ^^^ b) / 2 = a / 2 ^^^ b / 2 := by
  apply Nat.eq_of_testBit_eq
  intro i
  rw [Nat.testBit_xor, ← Nat.testBit_succ, ← Nat.testBit_succ, ← Nat.testBit_succ, Nat.testBit_xor]
theorem xor_mod2 (a b : Nat) : (a ^^^ b) % 2 = (a + b) % 2 := by
  have h := @Nat.xor_mod_two_eq_one a b
  omega
theorem crcBit_xor (a b : Nat) : crcBit (a ^^^ b) = crcBit a ^^^ crcBit b := by
  have h := xor_mod2 a b
  unfold crcBit
  rw [xor_div2]
  have ha : a % 2 = 0 ∨ a % 2 = 1 := by omega
  have hb : b % 2 = 0 ∨ b % 2 = 1 := by omega
  rcases ha with ha | ha <;> rcases hb with hb | hb
  · rw [if_neg (by omega), if_neg (by omega), if_neg (by omega)]
  · rw [if_pos (by omega), if_neg (by omega), if_pos (by omega), Nat.xor_assoc]
  · rw [if_pos (by omega), if_pos (by omega), if_neg (by omega), xor_swap]
  · rw [if_neg (by omega), if_pos (by omega), if_pos (by omega), xor_four, Nat.xor_self, Nat.xor_zero]
theorem crcBits_xor (k a b : Nat) : crcBits k (a ^^^ b) = crcBits k a ^^^ crcBits k b := by
  induction k with
  | zero => rfl
  | succ k ih => simp only [crcBits, ih, crcBit_xor]
theorem crcBits_zero (k : Nat) : crcBits k 0 = 0 := by
  induction k with
  | zero => rfl
  | succ k ih => simp only [crcBits, ih]; rfl
/-- What lies above the bits that are shifted out only moves. -/
theorem crcBits_high (k j h : Nat) : crcBits k (h * 2 ^ (j + k)) = h * 2 ^ j := by
  induction k generalizing j with
  | zero => rfl
  | succ k ih =>
    have := ih (j + 1)
    rw [show j + 1 + k = j + (k + 1) from by omega] at this
    simp only [crcBits, this, crcBit]
    rw [Nat.pow_succ, ← Nat.mul_assoc, if_neg (by omega)]
    omega
theorem split8 (r : Nat) : r = (r / 256 * 2 ^ (0 + 8)) ^^^ (r % 256) := by
  apply Nat.eq_of_testBit_eq
  intro i
  have e1 : r / 256 = r / 2 ^ 8 := rfl
  have e2 : r % 256 = r % 2 ^ 8 := rfl
  rw [Nat.testBit_xor, e1, e2, Nat.testBit_mod_two_pow, Nat.testBit_mul_two_pow, Nat.testBit_div_two_pow]
  by_cases h : i < 8
  · simp [h, show ¬ 8 ≤ i from by omega]
  · simp [h, show 8 ≤ i from by omega, show i - 8 + 8 = i from by omega]
theorem crcByte_split (r : Nat) : crcByte r = (r / 256) ^^^ crcByte (r % 256) := by
  show crcBits 8 r = _ ^^^ crcBits 8 _
  have h := congrArg (crcBits 8) (split8 r)
  rw [h, crcBits_xor, crcBits_high 8 0, Nat.pow_zero, Nat.mul_one]

/-- The step by the table. -/
theorem xor_byte_div (r : Nat) (c : UInt8) : (r ^^^ c.toNat) / 256 = r / 256 := by
  apply Nat.eq_of_testBit_eq
  intro i
  have hc : c.toNat < 2 ^ 8 := c.toNat_lt
  have e : ∀ x : Nat, x / 256 = x / 2 ^ 8 := fun _ => rfl
  rw [e, e r, Nat.testBit_div_two_pow, Nat.testBit_div_two_pow, Nat.testBit_xor, Nat.testBit_lt_two_pow (x := c.toNat) (Nat.lt_of_lt_of_le hc (Nat.pow_le_pow_right (by decide) (by omega))), Bool.xor_false]
theorem xor_byte_mod (r : Nat) (c : UInt8) : (r ^^^ c.toNat) % 256 = (r % 256) ^^^ c.toNat := by
  apply Nat.eq_of_testBit_eq
  intro i
  have hc : c.toNat < 2 ^ 8 := c.toNat_lt
  have e : ∀ x : Nat, x % 256 = x % 2 ^ 8 := fun _ => rfl
  rw [e, e r, Nat.testBit_mod_two_pow, Nat.testBit_xor, Nat.testBit_xor, Nat.testBit_mod_two_pow]
  by_cases h : i < 8
  · simp [h]
  · have := Nat.testBit_lt_two_pow (x := c.toNat) (Nat.lt_of_lt_of_le hc (Nat.pow_le_pow_right (by decide) (show 8 ≤ i by omega)))
    simp [h, this]
theorem crcStep_table (r : Nat) (c : UInt8) : crcStep r c = (r / 256) ^^^ crcByte ((r % 256) ^^^ c.toNat) := by
  rw [crcStep, crcByte_split, xor_byte_div, xor_byte_mod]

/-! Two texts of one length. -/
def xorL (l m : List UInt8) : List UInt8 := List.zipWith (· ^^^ ·) l m
theorem crcFold_xor (r q : Nat) (l m : List UInt8) (h : l.length = m.length) : crcFold r l ^^^ crcFold q m = crcFold (r ^^^ q) (xorL l m) := by
  induction l generalizing r q m with
  | nil =>
    have : m = [] := List.eq_nil_of_length_eq_zero (by simpa using h.symm)
    subst this
    rfl
  | cons c l ih =>
    cases m with
    | nil => simp at h
    | cons d m =>
      have e := ih (crcStep r c) (crcStep q d) m (by simpa using h)
      show crcFold (crcStep r c) l ^^^ crcFold (crcStep q d) m = crcFold (crcStep (r ^^^ q) (c ^^^ d)) (xorL l m)
      rw [e]
      congr 1
      show crcBits 8 _ ^^^ crcBits 8 _ = crcBits 8 _
      rw [← crcBits_xor, xor_four, UInt8.toNat_xor]

theorem crcBit_ne {r : Nat} (h : r < 4294967296) (h0 : r ≠ 0) : crcBit r ≠ 0 := by
  unfold crcBit
  split
  · intro e
    have h1 : (r / 2 ^^^ 3988292384).testBit 31 = false := by rw [e]; rfl
    have h2 : (r / 2).testBit 31 = false := Nat.testBit_lt_two_pow (by omega)
    rw [Nat.testBit_xor, h2] at h1
    revert h1
    decide
  · omega
theorem crcBits_ne (k : Nat) {r : Nat} (h : r < 4294967296) (h0 : r ≠ 0) : crcBits k r ≠ 0 := by
  induction k with
  | zero => exact h0
  | succ k ih => exact crcBit_ne (crcBits_lt k h) ih

/-- The difference of two registers behind the texts l and l', of which one byte differs. -/
def turned (n i : Nat) (x : UInt8) : Nat := crcFold 0 ((List.replicate n (0 : UInt8)).set i x)
theorem xorL_set (l : List UInt8) (i : Nat) (x : UInt8) (h : i < l.length) : xorL l (l.set i (l[i]?.getD 0 ^^^ x)) = (List.replicate l.length (0 : UInt8)).set i x := by
  apply List.ext_getElem
  · simp [xorL]
  · intro j h1 h2
    simp only [xorL, List.getElem_zipWith, List.getElem_set, List.getElem_replicate]
    split
    · rename_i e
      subst e
      simp [h, ← UInt8.xor_assoc]
    · simp
theorem turned_eq (r : Nat) (l : List UInt8) (i : Nat) (x : UInt8) (h : i < l.length) : crcFold r l ^^^ crcFold r (l.set i (l[i]?.getD 0 ^^^ x)) = turned l.length i x := by
  rw [crcFold_xor _ _ _ _ (by simp), Nat.xor_self, xorL_set l i x h]
  rfl
theorem crcFold_ne (l : List UInt8) {r : Nat} (h : r < 4294967296) (h0 : r ≠ 0) (hl : ∀ c ∈ l, c = 0) : crcFold r l ≠ 0 := by
  induction l generalizing r with
  | nil => exact h0
  | cons c l ih =>
    have hc : c = 0 := hl c (by simp)
    subst hc
    refine ih (crcStep_lt h 0) ?_ fun c hc => hl c (by simp [hc])
    show crcBits 8 (r ^^^ (0 : UInt8).toNat) ≠ 0
    rw [show (0 : UInt8).toNat = 0 from rfl, Nat.xor_zero]
    exact crcBits_ne 8 h h0
theorem turned_ne (n i : Nat) (x : UInt8) (h : i < n) (hx : x ≠ 0) : turned n i x ≠ 0 := by
  obtain ⟨m, rfl⟩ : ∃ m, n = i + (m + 1) := ⟨n - i - 1, by omega⟩
  have e : (List.replicate (i + (m + 1)) (0 : UInt8)).set i x = List.replicate i 0 ++ (x :: List.replicate m 0) := by
    rw [← List.replicate_append_replicate, List.set_append_right _ _ (by simp)]
    simp [List.replicate_succ]
  have z : ∀ i : Nat, crcFold 0 (List.replicate i (0 : UInt8)) = 0 := fun i => by
    induction i with
    | zero => rfl
    | succ i ih => rw [List.replicate_succ]; exact ih
  rw [turned, e, crcFold_append, z]
  show crcFold (crcStep 0 x) _ ≠ 0
  refine crcFold_ne _ (crcStep_lt (by decide) x) ?_ fun c hc => by simpa using (List.mem_replicate.1 hc).2
  show crcBits 8 (0 ^^^ x.toNat) ≠ 0
  rw [Nat.zero_xor]
  have h1 := x.toNat_lt
  exact crcBits_ne 8 (by omega) fun e0 => hx (UInt8.toNat_inj.1 e0)
theorem xor_not (a b : Nat) (ha : a < 4294967296) (hb : b < 4294967296) : (4294967295 - a) ^^^ (4294967295 - b) = a ^^^ b := by
  have e : ∀ a : Nat, a < 4294967296 → 4294967295 - a = a ^^^ 4294967295 := fun a ha => by
    apply Nat.eq_of_testBit_eq
    intro i
    rw [Nat.testBit_xor, show 4294967295 - a = 2 ^ 32 - (a + 1) from by omega, Nat.testBit_two_pow_sub_succ (by omega), show 4294967295 = 2 ^ 32 - 1 from by decide, Nat.testBit_two_pow_sub_one]
    by_cases h : i < 32
    · simp [h]
    · simp [h, Nat.testBit_lt_two_pow (Nat.lt_of_lt_of_le (show a < 2 ^ 32 by omega) (Nat.pow_le_pow_right (by decide) (show 32 ≤ i by omega)))]
  rw [e a ha, e b hb, xor_four, Nat.xor_self, Nat.xor_zero]
/-- What SumsTurn asks, by numbers. -/
theorem crcV_turn (l : List UInt8) (i : Nat) (x : UInt8) (h : i < l.length) : crcV l ^^^ crcV (l.set i (l[i]?.getD 0 ^^^ x)) = turned l.length i x := by
  rw [crcV, crcV, xor_not _ _ (crcFold_lt (by decide) _) (crcFold_lt (by decide) _), turned_eq _ _ _ _ h]
theorem crcV_lt (l : List UInt8) : crcV l < 4294967296 := by unfold crcV; omega

end Go.Proofs.Ytjcpepjhnnpbpaa
