/- Layer 6, the mathematics of the laws: so many letters, so many digits. No program. -/
import Derived.Test.YtioddoojjmeknaaDoorLexQ
namespace Go.Proofs.YtioddoojjmeknaaDoor
set_option linter.unusedVariables false

theorem isW_bare {c : UInt8} (h : isW c = true) : isB c = false ∧ c ≠ 47 := by
  constructor
  · apply Classical.byContradiction
    intro hb
    have hm : c ∈ ([32, 9, 10, 13] : List UInt8) := List.contains_iff_mem.1 (by simpa only [isB, Bool.not_eq_false] using hb)
    simp only [List.mem_cons, List.mem_nil_iff, or_false] at hm
    rcases hm with rfl | rfl | rfl | rfl <;> exact absurd h (by decide)
  · rintro rfl
    exact absurd h (by decide)
theorem rep_lex (k : Nat) (c : UInt8) (h : isW c = true) (h1 : 1 ≤ k) (h2 : k ≤ 40) :
    lexL (32 :: List.replicate k c) = if (wnL (List.replicate k c)).2 ≠ 0 then .bad (1, 2) (wnL (List.replicate k c)).2
      else .ok [⟨(wnL (List.replicate k c)).1, (1, 2)⟩, ⟨tkEnd, posL (1, 2) (List.replicate k c)⟩] := by
  have hne : List.replicate k c ≠ [] := fun e => by have := congrArg List.length e; rw [List.length_replicate] at this; simp at this; omega
  have hrun : runL (List.replicate k c) = List.replicate k c := by unfold runL; rw [List.takeWhile_replicate, if_pos h]
  have hf : firstL (List.replicate k c) = wnL (List.replicate k c) := by
    unfold firstL
    rw [if_neg hne, hrun, if_pos hne]
  have hb : Bare (List.replicate k c) := by
    obtain ⟨m, rfl⟩ : ∃ m, k = m + 1 := ⟨k - 1, by omega⟩
    rw [List.replicate_succ]
    exact bare_cons (isW_bare h).1 fun e => (isW_bare h).2 e.1
  unfold lexL
  rw [if_neg (by rw [List.length_cons, List.length_replicate]; omega), lexG_blank (by decide), show stp (1, 1) 32 = (1, 2) from rfl, lexG_token hb, hf]
  by_cases he : (wnL (List.replicate k c)).2 ≠ 0
  · rw [if_pos he, if_pos he]
  · have he0 : (wnL (List.replicate k c)).2 = 0 := by simpa using he
    obtain ⟨ht, h3⟩ := wnL_cases _ he0
    rw [if_neg he, if_neg he, if_neg h3, ht, List.drop_length, lexG_nil]
    rfl
theorem letters_wn (k : Nat) (h1 : 1 ≤ k) : wnL (List.replicate k 120) = if 32 < k then (tk0, 7) else (⟨0, List.replicate k 120, 0⟩, 0) := by
  obtain ⟨m, rfl⟩ : ∃ m, k = m + 1 := ⟨k - 1, by omega⟩
  unfold wnL
  rw [if_neg (by rw [List.replicate_succ, List.headD_cons]; decide), List.length_replicate]
def dC (d : Nat) : UInt8 := UInt8.ofNat (49 + d)
def vR (d k : Nat) : Nat := valA 10 0 (List.replicate k (dC d))
theorem digits_one : ∀ d < 9, isW (dC d) = true ∧ isD (dC d) = true ∧ (dC d).toNat = 49 + d ∧ dv (dC d) = 1 + d ∧ dC d ≠ 48 := by decide
theorem digits_wn (d k : Nat) (hd : d < 9) (h1 : 1 ≤ k) : wnL (List.replicate k (dC d)) = if 18446744073709551616 ≤ vR d k then (tk0, 5) else (⟨1, List.replicate k (dC d), vR d k⟩, 0) := by
  obtain ⟨hw, hD, -, -, h48⟩ := digits_one d hd
  have hne : List.replicate k (dC d) ≠ [] := fun e => by have := congrArg List.length e; rw [List.length_replicate] at this; simp at this; omega
  obtain ⟨m, rfl⟩ : ∃ m, k = m + 1 := ⟨k - 1, by omega⟩
  have hn : numberL (List.replicate (m + 1) (dC d)) = if 18446744073709551616 ≤ vR d (m + 1) then (0, 5) else (vR d (m + 1), 0) := by
    unfold numberL
    have hp : ([48, 120] : List UInt8).isPrefixOf (List.replicate (m + 1) (dC d)) = false := by
      have : (48 == dC d) = false := by simpa using fun e => h48 e.symm
      rw [List.replicate_succ, List.isPrefixOf, this, Bool.false_and]
    rw [if_neg (by rw [hp]; decide)]
    unfold numB
    rw [if_neg (by
      rintro (e | e)
      · exact hne e
      · have : (List.replicate (m + 1) (dC d)).all isD = true := List.all_eq_true.2 fun x hx => by rw [(List.mem_replicate.1 hx).2]; exact hD
        rw [this] at e; cases e)]
    rfl
  unfold wnL
  rw [if_pos (by rw [List.replicate_succ, List.headD_cons]; exact hD), hn]
  by_cases h : 18446744073709551616 ≤ vR d (m + 1)
  · rw [if_pos h, if_pos h, if_neg (by decide)]
  · rw [if_neg h, if_neg h, if_pos rfl]
theorem valA_append (b : Nat) : ∀ (l r : List UInt8) (n : Nat), valA b n (l ++ r) = valA b (valA b n l) r
  | [], _, _ => rfl
  | c :: l, r, n => valA_append b l r _
theorem vR_zero (d : Nat) : vR d 0 = 0 := rfl
theorem vR_succ (d k : Nat) (hd : d < 9) : vR d (k + 1) = 10 * vR d k + (1 + d) := by
  unfold vR
  rw [List.replicate_succ', valA_append]
  show valA 10 0 (List.replicate k (dC d)) * 10 + dv (dC d) = _
  rw [(digits_one d hd).2.2.2.1, Nat.mul_comm]
theorem vR_le (d k : Nat) (hd : d < 9) : ∀ j, vR d k ≤ vR d (k + j)
  | 0 => Nat.le_refl _
  | j + 1 => by have := vR_le d k hd j; rw [show k + (j + 1) = (k + j) + 1 from rfl, vR_succ d _ hd]; omega
theorem digits_dec : ∀ k < 41, ∀ d < 9, (vR d k < 18446744073709551616 → k ≤ 20) ∧ (18446744073709551616 ≤ vR d k → 20 ≤ k) := by decide +kernel
end Go.Proofs.YtioddoojjmeknaaDoor
