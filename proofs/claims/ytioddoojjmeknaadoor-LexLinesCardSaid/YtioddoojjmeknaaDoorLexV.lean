/- Layer 6, the mathematics of the law on lines; what is left of the strings' words. No program. -/
import Derived.Test.YtioddoojjmeknaaDoorLexU
import Derived.Test.YtioddoojjmeknaaDoorLexJ
namespace Go.Proofs.YtioddoojjmeknaaDoor
set_option linter.unusedVariables false

theorem cut_line : ∀ l : List UInt8, (Lib.cut l [10]).1.count 10 = 0 ∧ (Lib.cut l [10]).1.length ≤ l.length
  | [] => by decide
  | c :: r => by
    obtain ⟨i1, i2⟩ := cut_line r
    by_cases hc : c = 10
    · subst hc
      have e : (Lib.cut (10 :: r) [10]).1 = [] := by
        unfold Lib.cut
        rw [if_pos (by rw [idx_yes]; decide), idx_yes]
        rfl
      rw [e]
      exact ⟨rfl, by simp⟩
    · have hi := idx_no hc r
      have hg := Lib.index_ge r [10]
      have e : (Lib.cut (c :: r) [10]).1 = c :: (Lib.cut r [10]).1 := by
        by_cases h1 : Lib.index r [10] = -1
        · rw [h1] at hi
          unfold Lib.cut
          rw [if_neg (by rw [hi]; decide), if_neg (by rw [h1]; decide)]
        · rw [if_neg (by simpa using h1)] at hi
          unfold Lib.cut
          rw [if_pos (by omega), if_pos (by omega), hi]
          show List.take (Lib.index r [10] + 1).toNat (c :: r) = c :: List.take (Lib.index r [10]).toNat r
          rw [show (Lib.index r [10] + 1).toNat = (Lib.index r [10]).toNat + 1 from by omega]
          rfl
      rw [e]
      refine ⟨?_, by simp only [List.length_cons]; omega⟩
      rw [List.count_cons, i1]
      simp [hc]
theorem no_slash {l : List UInt8} (h : Lib.hasSuffix l [47] = false) : l.getLast? ≠ some 47 := by
  intro e
  obtain ⟨ys, rfl⟩ := List.getLast?_eq_some_iff.1 e
  have : Lib.hasSuffix (ys ++ [47]) [47] = true := List.isSuffixOf_iff_suffix.2 (List.suffix_append _ _)
  rw [this] at h
  cases h

/-- Where tokens stand, and where a text fails. -/
theorem lexG_at : ∀ (n : Nat) (b : Bool) (p : Ps) (l : List UInt8), l.length ≤ n →
    (∀ ts, lexG b p l = .ok ts → ∀ t ∈ ts, t.p.1 ≤ p.1 + l.length) ∧ ∀ q e, lexG b p l = .bad q e → q.1 ≤ p.1 + l.length ∧ e ≠ 0 := by
  intro n
  induction n with
  | zero =>
    intro b p l hl
    obtain rfl : l = [] := List.eq_nil_of_length_eq_zero (by omega)
    rw [lexG_nil]
    refine ⟨?_, fun q e h => by cases h⟩
    rintro ts h t ht
    cases h
    obtain rfl : t = ⟨tkEnd, p⟩ := by simpa using ht
    exact Nat.le_add_right _ _
  | succ n ih =>
    intro b p l hl
    have hs := skipM_len b l
    have hpos := (posL_le (l.take (l.length - (skipM b l).length)) p).1
    rw [List.length_take] at hpos
    rw [lexG_eq b p]
    by_cases he : (firstL (skipM b l)).2 ≠ 0
    · rw [if_pos he]
      refine ⟨fun ts h => (by cases h), ?_⟩
      rintro q e h
      cases h
      exact ⟨by omega, he⟩
    · rw [if_neg he]
      by_cases h3 : (firstL (skipM b l)).1.k = 3
      · rw [if_pos h3]
        refine ⟨?_, fun q e h => by cases h⟩
        rintro ts h t ht
        cases h
        obtain rfl := List.mem_singleton.1 ht
        show (posL p _).1 ≤ _
        omega
      · rw [if_neg h3]
        have hne : skipM b l ≠ [] := fun e => h3 (by rw [e]; rfl)
        have he0 : (firstL (skipM b l)).2 = 0 := by simpa using he
        have hd := drop_lt he0 hne
        obtain ⟨o1, o2, o3⟩ := firstL_ok he0 hne
        have hp := o3.length_le
        have hpos2 := (posL_le (firstL (skipM b l)).1.t (posL p (l.take (l.length - (skipM b l).length)))).1
        obtain ⟨i1, i2⟩ := ih false (posL (posL p (l.take (l.length - (skipM b l).length))) (firstL (skipM b l)).1.t) ((skipM b l).drop (firstL (skipM b l)).1.t.length) (by omega)
        rw [List.length_drop] at i1 i2
        generalize lexG false (posL (posL p (l.take (l.length - (skipM b l).length))) (firstL (skipM b l)).1.t) ((skipM b l).drop (firstL (skipM b l)).1.t.length) = R at i1 i2
        cases R with
        | ok u =>
          refine ⟨?_, fun q e h => by cases h⟩
          rintro ts h t ht
          cases h
          rcases List.mem_cons.1 ht with rfl | ht
          · show (posL p _).1 ≤ _
            omega
          · have := i1 u rfl t ht
            omega
        | bad q e =>
          refine ⟨fun ts h => (by cases h), ?_⟩
          rintro q' e' h
          cases h
          have := i2 q e rfl
          exact ⟨by omega, this.2⟩
theorem lexL_ok_at {s : List UInt8} {ts : List Tok} (h : lexL s = .ok ts) : ∀ t ∈ ts, t.p.1 ≤ 1 + s.length := by
  unfold lexL at h
  split at h
  · cases h
  · exact (lexG_at _ false (1, 1) s (Nat.le_refl _)).1 ts h
theorem lexL_bad_at {s : List UInt8} {q : Ps} {e : Nat} (h : lexL s = .bad q e) : q.1 ≤ 1 + s.length ∧ e ≠ 0 := by
  unfold lexL at h
  split at h
  · cases h; exact ⟨by simp, by decide⟩
  · exact (lexG_at _ false (1, 1) s (Nat.le_refl _)).2 q e h
theorem lexL_two {s t n : List UInt8} {ts : List Tok} (hs : s.length ≤ 3000) (ht : t.length ≤ 3000) (hn : n.length ≤ 100) (hc : n.count 10 = 0) (h : lexL s = .ok ts) (hl : s.getLast? ≠ some 47) :
    ∃ init q, ts = init ++ [⟨tkEnd, q⟩] ∧ lexL (s ++ [47, 47] ++ n ++ [10] ++ t) = LR.app init ((lexL t).sh (1 + s.count 10)) := by
  unfold lexL at h
  rw [if_neg (by omega)] at h
  obtain ⟨init, q, h1, h2⟩ := lexG_two n t hc _ false (1, 1) s ts (Nat.le_refl _) h hl
  refine ⟨init, q, h1, ?_⟩
  have e : s ++ [47, 47] ++ n ++ [10] ++ t = s ++ 47 :: 47 :: (n ++ 10 :: t) := by simp
  have hp : posL (1, 1) (s ++ 47 :: 47 :: (n ++ [10])) = shP (1 + s.count 10) (1, 1) := by
    have e2 : s ++ 47 :: 47 :: (n ++ [10]) = (s ++ 47 :: 47 :: n) ++ 10 :: [] := by simp
    have p1 := posL_count ((s ++ 47 :: 47 :: n) ++ 10 :: []) (1, 1)
    have p2 := posL_last (s ++ 47 :: 47 :: n) [] (1, 1) rfl
    have pc : ((s ++ 47 :: 47 :: n) ++ 10 :: []).count 10 = s.count 10 + 1 := by
      simp [List.count_append, hc]
    rw [pc] at p1
    rw [e2]
    unfold shP
    refine Prod.ext ?_ ?_
    · rw [p1]; show 1 + _ = 1 + (1 + _); omega
    · rw [p2]; rfl
  rw [e]
  unfold lexL
  rw [if_neg (by simp only [List.length_append, List.length_cons]; omega), if_neg (by omega), h2, hp, lexG_sh _ _ _ _ _ (Nat.le_refl _)]
end Go.Proofs.YtioddoojjmeknaaDoor
