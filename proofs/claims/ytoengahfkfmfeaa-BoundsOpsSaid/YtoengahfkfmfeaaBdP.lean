/- Layer 11, mathematics: what a Range of an operator is, and that it holds what the operator tells. No program. -/
import Derived.Test.YtoengahfkfmfeaaWordP
set_option linter.unusedVariables false
set_option linter.unusedSimpArgs false
namespace Go.Proofs.Ytoengahfkfmfeaa

theorem W0 : W64 0 := ⟨by decide, by decide⟩
theorem W1 : W64 1 := ⟨by decide, by decide⟩
/-- As many binary digits as a number has. -/
def lenV (n : Int) : Nat := if n = 0 then 0 else n.toNat.log2 + 1
/-- One less, round the end. -/
def predV (b : Int) : Int := if b = 0 then 18446744073709551615 else b - 1
def highB (l : List UInt8) (a b : Int × Int) : Int := if (opR l a.2 b.2).2 = 0 then (opR l a.2 b.2).1 else 18446744073709551615
/-- The range of an operator on two valid ranges, with the error of it. -/
def resB (l : List UInt8) (a b : Int × Int) : (Int × Int) × Int :=
  if a.1 = a.2 ∧ b.1 = b.2 then (((opR l a.1 b.1).1, (opR l a.1 b.1).1), (opR l a.1 b.1).2) else
  if (l == [43]) = true ∨ (l == [42]) = true ∨ (l == [60, 60]) = true then (((opR l a.1 b.1).1, highB l a b), (opR l a.1 b.1).2) else
  if (l == [45]) = true then (((subR a.1 b.2).1, (subR a.2 b.1).1), (subR a.2 b.1).2) else
  if (l == [47]) = true then (((divR a.1 b.2).1, a.2 / max b.1 1), (divR a.1 b.2).2) else
  if (l == [37]) = true then ((0, min a.2 (predV b.2)), (modR a.1 b.2).2) else
  if (l == [62, 62]) = true then ((a.1 / 2 ^ (min b.2 63).toNat, (shrR a.2 b.1).1), (shrR a.2 b.1).2) else
  if (l == [38]) = true then ((0, min a.2 b.2), 0) else
  if (l == [124]) = true then ((max a.1 b.1, maskV (lenV (max a.2 b.2))), 0) else
  ((0, 1), (opR l a.1 b.1).2)
/-- What Op answers. -/
def opB (l : List UInt8) (a b : Int × Int) : Option (Int × Int) :=
  if a.1 ≤ a.2 ∧ b.1 ≤ b.2 then (if (resB l a b).2 = 0 then some (resB l a b).1 else none) else none
def WR (a : Int × Int) : Prop := W64 a.1 ∧ W64 a.2
def InR (n : Int) (a : Int × Int) : Prop := a.1 ≤ n ∧ n ≤ a.2

theorem len_nat (n : Nat) : n < 2 ^ lenV (n : Int) ∧ (n < 18446744073709551616 → lenV (n : Int) ≤ 64) := by
  unfold lenV
  by_cases h : n = 0
  · subst h; simp
  · rw [if_neg (by omega)]
    rw [show ((n : Int)).toNat = n from rfl]
    refine ⟨Nat.lt_log2_self, fun h2 => ?_⟩
    have : n.log2 < 64 := (Nat.log2_lt h).2 h2
    omega
theorem lenV_le {n : Int} (h : W64 n) : lenV n ≤ 64 := by
  obtain ⟨h1, h2⟩ := h
  obtain ⟨m, rfl⟩ := Int.eq_ofNat_of_zero_le h1
  exact (len_nat m).2 (by omega)
theorem mask_nat {k : Nat} (h : k ≤ 64) : maskV (k : Int) = ((2 ^ k - 1 : Nat) : Int) := by
  unfold maskV
  rw [show ((k : Int)).toNat = k from rfl, Nat.min_eq_left h]
  have : 0 < 2 ^ k := Nat.pow_pos (by decide)
  have e : ((2 ^ k - 1 : Nat) : Int) = ((2 ^ k : Nat) : Int) - 1 := by omega
  rw [e]
  simp
theorem le_mask {n : Int} (h : W64 n) : n ≤ maskV (lenV n) := by
  obtain ⟨h1, h2⟩ := h
  obtain ⟨m, rfl⟩ := Int.eq_ofNat_of_zero_le h1
  have h3 := len_nat m
  rw [mask_nat (h3.2 (by omega))]
  omega
theorem or_mask {x y m : Int} (hm : W64 m) (hx : 0 ≤ x) (hy : 0 ≤ y) (h1 : x ≤ m) (h2 : y ≤ m) : orV x y ≤ maskV (lenV m) ∧ x ≤ orV x y ∧ y ≤ orV x y := by
  obtain ⟨h0, h3⟩ := hm
  obtain ⟨m, rfl⟩ := Int.eq_ofNat_of_zero_le h0
  obtain ⟨x, rfl⟩ := Int.eq_ofNat_of_zero_le hx
  obtain ⟨y, rfl⟩ := Int.eq_ofNat_of_zero_le hy
  have h4 := len_nat m
  rw [mask_nat (h4.2 (by omega))]
  have h5 : x ||| y < 2 ^ lenV (m : Int) := Nat.or_lt_two_pow (by omega) (by omega)
  have h6 : x ≤ x ||| y := Nat.left_le_or
  have h7 : y ≤ x ||| y := Nat.right_le_or
  unfold orV
  rw [show ((x : Int)).toNat = x from rfl, show ((y : Int)).toNat = y from rfl]
  omega
theorem and_le {x y : Int} (hx : 0 ≤ x) (hy : 0 ≤ y) : 0 ≤ andV x y ∧ andV x y ≤ x ∧ andV x y ≤ y := by
  obtain ⟨x, rfl⟩ := Int.eq_ofNat_of_zero_le hx
  obtain ⟨y, rfl⟩ := Int.eq_ofNat_of_zero_le hy
  have h6 : x &&& y ≤ x := Nat.and_le_left
  have h7 : x &&& y ≤ y := Nat.and_le_right
  unfold andV
  rw [show ((x : Int)).toNat = x from rfl, show ((y : Int)).toNat = y from rfl]
  omega
theorem mul_mono {a b c d : Int} (h1 : a ≤ b) (h2 : c ≤ d) (hc : 0 ≤ c) (hb : 0 ≤ b) : a * c ≤ b * d :=
  Int.le_trans (Int.mul_le_mul_of_nonneg_right h1 hc) (Int.mul_le_mul_of_nonneg_left h2 hb)
theorem pow_mono {a b : Int} (h : a ≤ b) : (2 : Int) ^ a.toNat ≤ 2 ^ b.toNat := by
  have : (2 : Nat) ^ a.toNat ≤ 2 ^ b.toNat := Nat.pow_le_pow_right (by omega) (by omega)
  exact_mod_cast this
/-- A greater number by a lesser one. -/
theorem div_mono {a b c d : Int} (h1 : a ≤ b) (h2 : d ≤ c) (hd : 0 < d) (ha : 0 ≤ a) : a / c ≤ b / d := by
  have hb : 0 ≤ b := by omega
  rw [Int.le_ediv_iff_mul_le hd]
  have h3 : 0 ≤ a / c := Int.ediv_nonneg ha (by omega)
  have h4 : a / c * d ≤ a / c * c := Int.mul_le_mul_of_nonneg_left h2 h3
  have h5 : a / c * c ≤ a := Int.ediv_mul_le a (by omega)
  omega
theorem truth_in (b : Bool) : InR (truthV b) (0, 1) := by cases b <;> exact ⟨by decide, by decide⟩
theorem ok_ite {c : Prop} [Decidable c] {x : Int} {e n : Int} (he : e ≠ 0) (h : (if c then (x, (0 : Int)) else (0, e)) = (n, 0)) : c ∧ n = x := by
  split at h
  · exact ⟨‹_›, by cases h; rfl⟩
  · cases h; exact absurd rfl he
theorem no_ite {c : Prop} [Decidable c] {x : Int} {e n : Int} (he : e ≠ 0) (h : (if c then (0, e) else (x, (0 : Int))) = (n, 0)) : ¬ c ∧ n = x := by
  split at h
  · cases h; exact absurd rfl he
  · exact ⟨‹_›, by cases h; rfl⟩
theorem iteok {c : Prop} [Decidable c] {x : Int} {e : Int} (h : c) : (if c then (x, (0 : Int)) else (0, e)) = (x, 0) := if_pos h
/-- What a rising operator tells of the least numbers, of any, of the greatest. -/
theorem add_rise {x y a b n : Int} (h : addR x y = (n, 0)) (h1 : a ≤ x) (h2 : b ≤ y) : addR a b = (a + b, 0) ∧ n = x + y ∧ a + b ≤ n := by
  obtain ⟨h3, h4⟩ := ok_ite (by decide) h
  exact ⟨iteok (by omega), h4, by omega⟩
theorem mul_rise {x y a b n : Int} (h : mulR x y = (n, 0)) (h1 : a ≤ x) (h2 : b ≤ y) (ha : 0 ≤ a) (hb : 0 ≤ b) : mulR a b = (a * b, 0) ∧ n = x * y ∧ a * b ≤ n := by
  obtain ⟨h3, h4⟩ := ok_ite (by decide) h
  have := mul_mono h1 h2 hb (by omega)
  exact ⟨iteok (by omega), h4, by omega⟩
theorem shl_rise {x y a b n : Int} (h : shlR x y = (n, 0)) (h1 : a ≤ x) (h2 : b ≤ y) (ha : 0 ≤ a) (hb : 0 ≤ b) : shlR a b = (a * 2 ^ b.toNat, 0) ∧ n = x * 2 ^ y.toNat ∧ a * 2 ^ b.toNat ≤ n := by
  obtain ⟨⟨h3, h5⟩, h4⟩ := ok_ite (by decide) h
  have := mul_mono h1 (pow_mono h2) (Int.le_of_lt (pow2_pos _)) (by omega)
  exact ⟨iteok ⟨by omega, by omega⟩, h4, by omega⟩

section
variable {l : List UInt8} {a b : Int × Int} {x y n : Int}
theorem w_le {n : Int} (h : W64 n) : n ≤ 18446744073709551615 := h.2
theorem opB_some {r : Int × Int} (hv : a.1 ≤ a.2 ∧ b.1 ≤ b.2) (h : resB l a b = (r, 0)) : opB l a b = some r := by
  unfold opB; rw [if_pos hv, h]; rfl
theorem ne_of {l m : List UInt8} (h : ¬ (l == m) = true) : l ≠ m := by simpa using h
set_option maxHeartbeats 1000000 in
/-- What an operator tells of numbers in two ranges lies in the range of it. -/
theorem opB_holds (ha : WR a) (hb : WR b) (hx : InR x a) (hy : InR y b) (h : opR l x y = (n, 0)) : ∃ r, opB l a b = some r ∧ InR n r := by
  obtain ⟨⟨a0, a1⟩, a2, a3⟩ := ha
  obtain ⟨⟨b0, b1⟩, b2, b3⟩ := hb
  obtain ⟨x1, x2⟩ := hx
  obtain ⟨y1, y2⟩ := hy
  have hv : a.1 ≤ a.2 ∧ b.1 ≤ b.2 := by omega
  have hnw : n ≤ 18446744073709551615 := by
    have := (op_ok l (a := x) (b := y) ⟨by omega, by omega⟩ ⟨by omega, by omega⟩).1.2
    rw [h] at this; exact this
  suffices hs : ∃ r, resB l a b = (r, 0) ∧ InR n r by
    obtain ⟨r, h1, h2⟩ := hs
    exact ⟨r, opB_some hv h1, h2⟩
  unfold resB
  by_cases hp : a.1 = a.2 ∧ b.1 = b.2
  · rw [if_pos hp]
    have e1 : a.1 = x := by omega
    have e2 : b.1 = y := by omega
    rw [e1, e2, h]
    exact ⟨_, rfl, ⟨Int.le_refl _, Int.le_refl _⟩⟩
  rw [if_neg hp]
  have hH : ∀ m, opR l a.2 b.2 = (m, 0) ∧ n ≤ m ∨ (opR l a.2 b.2).2 ≠ 0 → n ≤ highB l a b := by
    intro m hm
    unfold highB
    rcases hm with ⟨h1, h2⟩ | h1
    · rw [h1]; exact h2
    · rw [if_neg h1]; exact hnw
  by_cases h1 : (l == [43]) = true
  · have e : l = [43] := by simpa using h1
    subst e
    rw [if_pos (.inl rfl)]
    have q : addR x y = (n, 0) := h
    obtain ⟨q1, q2, q3⟩ := add_rise q x1 y1
    have q4 : opR [43] a.1 b.1 = addR a.1 b.1 := rfl
    rw [q4, q1]
    refine ⟨_, rfl, q3, hH (a.2 + b.2) ?_⟩
    show addR a.2 b.2 = _ ∧ _ ∨ (addR a.2 b.2).2 ≠ 0
    unfold addR
    split
    · exact .inl ⟨rfl, by omega⟩
    · exact .inr (by decide : (5 : Int) ≠ 0)
  by_cases h2 : (l == [42]) = true
  · have e : l = [42] := by simpa using h2
    subst e
    rw [if_pos (.inr (.inl rfl))]
    have q : mulR x y = (n, 0) := h
    obtain ⟨q1, q2, q3⟩ := mul_rise q x1 y1 a0 b0
    have q4 : opR [42] a.1 b.1 = mulR a.1 b.1 := rfl
    rw [q4, q1]
    refine ⟨_, rfl, q3, hH (a.2 * b.2) ?_⟩
    show mulR a.2 b.2 = _ ∧ _ ∨ (mulR a.2 b.2).2 ≠ 0
    have q5 := mul_mono x2 y2 (by omega) (by omega)
    unfold mulR
    split
    · exact .inl ⟨rfl, by omega⟩
    · exact .inr (by decide : (5 : Int) ≠ 0)
  by_cases h3 : (l == [60, 60]) = true
  · have e : l = [60, 60] := by simpa using h3
    subst e
    rw [if_pos (.inr (.inr rfl))]
    have q : shlR x y = (n, 0) := h
    obtain ⟨q1, q2, q3⟩ := shl_rise q x1 y1 a0 b0
    have q4 : opR [60, 60] a.1 b.1 = shlR a.1 b.1 := rfl
    rw [q4, q1]
    refine ⟨_, rfl, q3, hH (a.2 * 2 ^ b.2.toNat) ?_⟩
    show shlR a.2 b.2 = _ ∧ _ ∨ (shlR a.2 b.2).2 ≠ 0
    have q5 := mul_mono x2 (pow_mono y2) (Int.le_of_lt (pow2_pos _)) (by omega)
    unfold shlR
    split
    · exact .inl ⟨rfl, by omega⟩
    · exact .inr (by decide : (5 : Int) ≠ 0)
  rw [if_neg (by rintro (h | h | h) <;> contradiction)]
  by_cases h4 : (l == [45]) = true
  · have e : l = [45] := by simpa using h4
    subst e
    rw [if_pos h4]
    obtain ⟨q1, q2⟩ := ok_ite (by decide) (show subR x y = (n, 0) from h)
    have q3 : subR a.2 b.1 = (a.2 - b.1, 0) := iteok (by omega)
    rw [q3]
    refine ⟨_, rfl, ?_, by show n ≤ a.2 - b.1; omega⟩
    show (subR a.1 b.2).1 ≤ n
    unfold subR
    split
    · show a.1 - b.2 ≤ n; omega
    · show 0 ≤ n; omega
  rw [if_neg h4]
  by_cases h5 : (l == [47]) = true
  · have e : l = [47] := by simpa using h5
    subst e
    rw [if_pos h5]
    obtain ⟨q1, q2⟩ := no_ite (by decide) (show divR x y = (n, 0) from h)
    have q3 : divR a.1 b.2 = (a.1 / b.2, 0) := if_neg (by omega)
    rw [q3]
    refine ⟨_, rfl, ?_, ?_⟩
    · show a.1 / b.2 ≤ n
      rw [q2]; exact div_mono x1 y2 (by omega) a0
    · show n ≤ a.2 / max b.1 1
      rw [q2]; exact div_mono x2 (by omega) (by omega) (by omega)
  rw [if_neg h5]
  by_cases h6 : (l == [37]) = true
  · have e : l = [37] := by simpa using h6
    subst e
    rw [if_pos h6]
    obtain ⟨q1, q2⟩ := no_ite (by decide) (show modR x y = (n, 0) from h)
    have q3 : modR a.1 b.2 = (a.1 % b.2, 0) := if_neg (by omega)
    rw [q3]
    have q4 := mod_le (a := x) (b := y) ⟨by omega, by omega⟩ (by omega) q1
    refine ⟨_, rfl, ?_, ?_⟩
    · show 0 ≤ n; omega
    · have hq : predV b.2 = b.2 - 1 := if_neg (by omega)
      show n ≤ min a.2 (predV b.2); omega
  rw [if_neg h6]
  by_cases h7 : (l == [62, 62]) = true
  · have e : l = [62, 62] := by simpa using h7
    subst e
    rw [if_pos h7]
    obtain ⟨q1, q2⟩ := ok_ite (by decide) (show shrR x y = (n, 0) from h)
    have q3 : shrR a.2 b.1 = (a.2 / 2 ^ b.1.toNat, 0) := iteok (by omega)
    rw [q3]
    refine ⟨_, rfl, ?_, ?_⟩
    · show a.1 / 2 ^ (min b.2 63).toNat ≤ n
      rw [q2]; exact div_mono x1 (pow_mono (by omega)) (pow2_pos _) a0
    · show n ≤ a.2 / 2 ^ b.1.toNat
      rw [q2]; exact div_mono x2 (pow_mono y1) (pow2_pos _) (by omega)
  rw [if_neg h7]
  by_cases h8 : (l == [38]) = true
  · have e : l = [38] := by simpa using h8
    subst e
    rw [if_pos h8]
    have q : n = andV x y := by have q : (andV x y, (0 : Int)) = (n, 0) := h; cases q; rfl
    have q1 := and_le (x := x) (y := y) (by omega) (by omega)
    exact ⟨_, rfl, by show 0 ≤ n; omega, by show n ≤ min a.2 b.2; omega⟩
  rw [if_neg h8]
  by_cases h9 : (l == [124]) = true
  · have e : l = [124] := by simpa using h9
    subst e
    rw [if_pos h9]
    have q : n = orV x y := by have q : (orV x y, (0 : Int)) = (n, 0) := h; cases q; rfl
    have q1 := or_mask (x := x) (y := y) (m := max a.2 b.2) ⟨by omega, by omega⟩ (by omega) (by omega) (by omega) (by omega)
    exact ⟨_, rfl, by show max a.1 b.1 ≤ n; omega, by show n ≤ maskV _; rw [q]; exact q1.1⟩
  rw [if_neg h9]
  unfold opR at h ⊢
  rw [if_neg h1, if_neg h4, if_neg h2, if_neg h5, if_neg h6, if_neg h3, if_neg h7, if_neg h8, if_neg h9] at h ⊢
  have T : ∀ {p q : Bool} {R R' : Int × Int} {c : Prop} [Decidable c], (if c then (truthV p, (0 : Int)) else R) = (n, 0) → (R = (n, 0) → InR n (0, 1) ∧ R'.2 = 0) → InR n (0, 1) ∧ (if c then (truthV q, (0 : Int)) else R').2 = 0 := by
    intro p q R R' c _ e1 e2
    by_cases hc : c
    · rw [if_pos hc] at e1
      rw [if_pos hc]
      obtain rfl : truthV p = n := congrArg Prod.fst e1
      exact ⟨truth_in p, rfl⟩
    · rw [if_neg hc] at e1
      rw [if_neg hc]
      exact e2 e1
  refine (fun (k : InR n (0, 1) ∧ (_ : Int × Int).2 = 0) => ⟨(0, 1), Prod.ext rfl k.2, k.1⟩) ?_
  exact T h fun h => T h fun h => T h fun h => T h fun h => T h fun h => T h fun h => T h fun h => T h fun h => absurd (congrArg Prod.snd h) (by decide : ¬ (4 : Int) = 0)
set_option maxHeartbeats 1000000 in
/-- A Range that Op answers is valid. -/
theorem opB_ok (ha : WR a) (hb : WR b) {r : Int × Int} (h : opB l a b = some r) : WR r ∧ r.1 ≤ r.2 := by
  unfold opB at h
  split at h
  · rename_i hv
    split at h
    · rename_i he
      cases h
      have hw := op_ok l ha.1 hb.1
      obtain ⟨⟨a0, a1⟩, a2, a3⟩ := ha
      obtain ⟨⟨b0, b1⟩, b2, b3⟩ := hb
      unfold resB at he ⊢
      by_cases hp : a.1 = a.2 ∧ b.1 = b.2
      · rw [if_pos hp] at he ⊢
        exact ⟨⟨hw.1, hw.1⟩, Int.le_refl _⟩
      rw [if_neg hp] at he ⊢
      by_cases h1 : (l == [43]) = true ∨ (l == [42]) = true ∨ (l == [60, 60]) = true
      · rw [if_pos h1] at he ⊢
        have hh := (op_ok l (a := a.2) (b := b.2) ⟨a2, a3⟩ ⟨b2, b3⟩).1
        have hr : (opR l a.1 b.1).1 ≤ highB l a b := by
          unfold highB
          split
          · rename_i he2
            have e1 : opR l a.2 b.2 = ((opR l a.2 b.2).1, 0) := Prod.ext rfl he2
            rcases h1 with h1 | h1 | h1
            · have e : l = [43] := by simpa using h1
              subst e
              have q := add_rise (show addR a.2 b.2 = (_, 0) from e1) hv.1 hv.2
              rw [show opR [43] a.1 b.1 = _ from q.1]; exact q.2.2
            · have e : l = [42] := by simpa using h1
              subst e
              have q := mul_rise (show mulR a.2 b.2 = (_, 0) from e1) hv.1 hv.2 a0 b0
              rw [show opR [42] a.1 b.1 = _ from q.1]; exact q.2.2
            · have e : l = [60, 60] := by simpa using h1
              subst e
              have q := shl_rise (show shlR a.2 b.2 = (_, 0) from e1) hv.1 hv.2 a0 b0
              rw [show opR [60, 60] a.1 b.1 = _ from q.1]; exact q.2.2
          · exact hw.1.2
        refine ⟨⟨hw.1, ?_⟩, hr⟩
        show W64 (highB l a b)
        unfold highB
        split
        · exact hh
        · exact ⟨by decide, by decide⟩
      rw [if_neg h1] at he ⊢
      split
      · rename_i h4
        rw [if_pos h4] at he
        have he : (subR a.2 b.1).2 = 0 := he
        have q := ok_ite (by decide) (show subR a.2 b.1 = ((subR a.2 b.1).1, 0) from Prod.ext rfl he)
        have q2 : W64 (subR a.1 b.2).1 ∧ (subR a.1 b.2).1 ≤ (subR a.2 b.1).1 := by
          rw [q.2]
          unfold subR W64
          split
          · show (0 ≤ a.1 - b.2 ∧ a.1 - b.2 ≤ 18446744073709551615) ∧ a.1 - b.2 ≤ _; omega
          · show (0 ≤ (0 : Int) ∧ (0 : Int) ≤ 18446744073709551615) ∧ (0 : Int) ≤ _; omega
        refine ⟨⟨q2.1, ?_⟩, q2.2⟩
        show W64 (subR a.2 b.1).1
        rw [q.2]; exact ⟨by omega, by omega⟩
      rename_i h4
      rw [if_neg h4] at he
      split
      · rename_i h5
        rw [if_pos h5] at he
        have he : (divR a.1 b.2).2 = 0 := he
        have q := no_ite (by decide) (show divR a.1 b.2 = ((divR a.1 b.2).1, 0) from Prod.ext rfl he)
        have q1 : (divR a.1 b.2).1 ≤ a.2 / max b.1 1 := by rw [q.2]; exact div_mono hv.1 (by omega) (by omega) a0
        exact ⟨⟨by show W64 (divR a.1 b.2).1; rw [q.2]; exact div_le ⟨a0, a1⟩ b2, div_le ⟨a2, a3⟩ (by omega)⟩, q1⟩
      rename_i h5
      rw [if_neg h5] at he
      split
      · rename_i h6
        rw [if_pos h6] at he
        have he : (modR a.1 b.2).2 = 0 := he
        have q := no_ite (by decide) (show modR a.1 b.2 = ((modR a.1 b.2).1, 0) from Prod.ext rfl he)
        have hq : predV b.2 = b.2 - 1 := if_neg q.1
        refine ⟨⟨W0, ?_⟩, ?_⟩
        · show W64 (min a.2 (predV b.2)); exact ⟨by omega, by omega⟩
        · show 0 ≤ min a.2 (predV b.2); omega
      rename_i h6
      rw [if_neg h6] at he
      split
      · rename_i h7
        rw [if_pos h7] at he
        have he : (shrR a.2 b.1).2 = 0 := he
        have q := ok_ite (by decide) (show shrR a.2 b.1 = ((shrR a.2 b.1).1, 0) from Prod.ext rfl he)
        have q1 : a.1 / 2 ^ (min b.2 63).toNat ≤ (shrR a.2 b.1).1 := by rw [q.2]; exact div_mono hv.1 (pow_mono (by omega)) (pow2_pos _) a0
        exact ⟨⟨div_le ⟨a0, a1⟩ (Int.le_of_lt (pow2_pos _)), by show W64 (shrR a.2 b.1).1; rw [q.2]; exact div_le ⟨a2, a3⟩ (Int.le_of_lt (pow2_pos _))⟩, q1⟩
      split
      · refine ⟨⟨W0, ?_⟩, ?_⟩
        · show W64 (min a.2 b.2); exact ⟨by omega, by omega⟩
        · show 0 ≤ min a.2 b.2; omega
      split
      · have q := le_mask (n := max a.2 b.2) ⟨by omega, by omega⟩
        refine ⟨⟨?_, mask_le _⟩, ?_⟩
        · show W64 (max a.1 b.1); exact ⟨by omega, by omega⟩
        · show max a.1 b.1 ≤ maskV _; omega
      · exact ⟨⟨W0, W1⟩, (by decide : (0 : Int) ≤ 1)⟩
    · cases h
  · cases h
/-- Of points: the point of the operator's result. -/
theorem opB_point : opB l (x, x) (y, y) = if (opR l x y).2 = 0 then some ((opR l x y).1, (opR l x y).1) else none := by
  unfold opB resB
  simp
end
end Go.Proofs.Ytoengahfkfmfeaa
