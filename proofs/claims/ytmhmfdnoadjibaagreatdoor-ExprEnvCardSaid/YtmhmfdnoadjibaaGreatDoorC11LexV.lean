/- Layer 6, the mathematics of the laws: two texts with a comment between. No program. · Layer 6, the mathematics of the law on lines; what is left of the strings' words. No program. -/
import Derived.Test.YtmhmfdnoadjibaaGreatDoorC11LexQ
import Derived.Test.YtmhmfdnoadjibaaGreatDoorC11LexK
set_option linter.unusedVariables false
set_option linter.unusedSimpArgs false
namespace Go.Proofs.YtmhmfdnoadjibaaGreatDoor
def shP (L : Nat) (p : Ps) : Ps := (p.1 + L, p.2)
def shT (L : Nat) (t : Tok) : Tok := ⟨t.tk, shP L t.p⟩
def LR.sh (L : Nat) : LR → LR
 | .ok l => .ok (l.map (shT L))
 | .bad p e => .bad (shP L p) e
theorem stp_sh (L : Nat) (p : Ps) (c : UInt8) : stp (shP L p) c = shP L (stp p c) := by
 unfold stp shP
 split
 ·simp only [Prod.mk.injEq, and_true]; omega
 ·rfl
theorem posL_sh (L : Nat) : ∀ (l : List UInt8) (p : Ps), posL (shP L p) l = shP L (posL p l)
 | [], p => rfl
 | c :: r, p => by
  show posL (stp (shP L p) c) r = _
  rw [stp_sh, posL_sh L r]
  rfl
theorem LR.sh_cons (L : Nat) (x : Tok) (r : LR) : (r.cons x).sh L = (r.sh L).cons (shT L x) := by cases r <;> rfl
theorem lexG_sh (L : Nat) : ∀ (n : Nat) (b : Bool) (p : Ps) (l : List UInt8), l.length ≤ n → lexG b (shP L p) l = (lexG b p l).sh L := by
 intro n
 induction n with
 | zero =>
  intro b p l hl
  obtain rfl : l = [] := List.eq_nil_of_length_eq_zero (by omega)
  rw [lexG_nil, lexG_nil]
  rfl
 | succ n ih =>
  intro b p l hl
  rw [lexG_eq b (shP L p), lexG_eq b p, posL_sh]
  by_cases he : (firstL (skipM b l)).2 ≠ 0
  ·rw [if_pos he, if_pos he]; rfl
  ·rw [if_neg he, if_neg he]
   by_cases h3 : (firstL (skipM b l)).1.k = 3
   ·rw [if_pos h3, if_pos h3]; rfl
   ·rw [if_neg h3, if_neg h3, LR.sh_cons, posL_sh]
    have hne : skipM b l ≠ [] := fun e => h3 (by rw [e]; rfl)
    have hd := drop_lt (by simpa using he) hne
    have hs := skipM_len b l
    rw [ih _ _ _ (by omega)]
    rfl
end Go.Proofs.YtmhmfdnoadjibaaGreatDoor
namespace Go.Proofs.YtmhmfdnoadjibaaGreatDoor
theorem lexG_at : ∀ (n : Nat) (b : Bool) (p : Ps) (l : List UInt8), l.length ≤ n →
  (∀ ts, lexG b p l = .ok ts → ∀ t ∈ ts, t.p.1 ≤ p.1 + l.length) ∧ ∀ q e, lexG b p l = .bad q e → q.1 ≤ p.1 + l.length ∧ e ≠ 0 := by
 intro n
 induction n with
 | zero =>
  intro b p l hl
  obtain rfl : l = [] := List.eq_nil_of_length_eq_zero (by omega)
  rw [lexG_nil]
  refine ⟨?_, fun q e h => by cases h⟩
  rintro ts h t ht
  cases h
  obtain rfl : t = ⟨tkEnd, p⟩ := by simpa using ht
  exact Nat.le_add_right _ _
 | succ n ih =>
  intro b p l hl
  have hs := skipM_len b l
  have hpos := (posL_le (l.take (l.length - (skipM b l).length)) p).1
  rw [List.length_take] at hpos
  rw [lexG_eq b p]
  by_cases he : (firstL (skipM b l)).2 ≠ 0
  ·rw [if_pos he]
   refine ⟨fun ts h => (by cases h), ?_⟩
   rintro q e h
   cases h
   exact ⟨by omega, he⟩
  ·rw [if_neg he]
   by_cases h3 : (firstL (skipM b l)).1.k = 3
   ·rw [if_pos h3]
    refine ⟨?_, fun q e h => by cases h⟩
    rintro ts h t ht
    cases h
    obtain rfl := List.mem_singleton.1 ht
    show (posL p _).1 ≤ _
    omega
   ·rw [if_neg h3]
    have hne : skipM b l ≠ [] := fun e => h3 (by rw [e]; rfl)
    have he0 : (firstL (skipM b l)).2 = 0 := by simpa using he
    have hd := drop_lt he0 hne
    obtain ⟨o1, o2, o3⟩ := firstL_ok he0 hne
    have hp := o3.length_le
    have hpos2 := (posL_le (firstL (skipM b l)).1.t (posL p (l.take (l.length - (skipM b l).length)))).1
    obtain ⟨i1, i2⟩ := ih false (posL (posL p (l.take (l.length - (skipM b l).length))) (firstL (skipM b l)).1.t) ((skipM b l).drop (firstL (skipM b l)).1.t.length) (by omega)
    rw [List.length_drop] at i1 i2
    generalize lexG false (posL (posL p (l.take (l.length - (skipM b l).length))) (firstL (skipM b l)).1.t) ((skipM b l).drop (firstL (skipM b l)).1.t.length) = R at i1 i2
    cases R with
    | ok u =>
     refine ⟨?_, fun q e h => by cases h⟩
     rintro ts h t ht
     cases h
     rcases List.mem_cons.1 ht with rfl | ht
     ·show (posL p _).1 ≤ _
      omega
     ·have := i1 u rfl t ht
      omega
    | bad q e =>
     refine ⟨fun ts h => (by cases h), ?_⟩
     rintro q' e' h
     cases h
     have := i2 q e rfl
     exact ⟨by omega, this.2⟩
theorem lexL_bad_at {s : List UInt8} {q : Ps} {e : Nat} (h : lexL s = .bad q e) : q.1 ≤ 1 + s.length ∧ e ≠ 0 := by
 unfold lexL at h
 split at h
 ·cases h; exact ⟨by simp, by decide⟩
 ·exact (lexG_at _ false (1, 1) s (Nat.le_refl _)).2 q e h
end Go.Proofs.YtmhmfdnoadjibaaGreatDoor
