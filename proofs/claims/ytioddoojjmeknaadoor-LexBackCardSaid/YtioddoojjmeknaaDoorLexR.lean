/- Layer 6, the mathematics of the laws: how texts are joined. No program. -/
import Derived.Test.YtioddoojjmeknaaDoorLexM
import Derived.Test.YtioddoojjmeknaaDoorLexQ
namespace Go.Proofs.YtioddoojjmeknaaDoor
set_option linter.unusedVariables false

theorem textsL_cons (t : Tok) (r : List Tok) : textsL (t :: r) = if t.tk.k = 3 then textsL r else t.tk.t :: textsL r := by
  by_cases h : t.tk.k = 3 <;> simp [textsL, h]
theorem joinR_aux : ∀ (l : List Tok), (∀ t ∈ l, t.tk.k ≠ 3 → t.tk.t ≠ []) → ∀ a : List UInt8, l.foldl jstep a = if a = [] then joinL l else a ++ Lib.joinTail [32] (textsL l)
  | [], _, a => by
    by_cases h : a = []
    · subst h; rfl
    · rw [if_neg h]; simp [textsL, Lib.joinTail]
  | t :: r, H, a => by
    rw [List.foldl_cons, joinR_aux r (fun x hx => H x (List.mem_cons_of_mem _ hx))]
    unfold jstep joinL
    rw [textsL_cons]
    by_cases h3 : t.tk.k = 3
    · rw [if_pos h3, if_pos h3]
    · have hne := H t List.mem_cons_self h3
      rw [if_neg h3, if_neg h3]
      by_cases ha : a = []
      · subst ha
        rw [if_pos rfl, List.nil_append, if_neg hne, if_pos rfl, Lib.join_cons]
      · rw [if_neg ha, if_neg (by simp), if_neg ha]
        simp [Lib.joinTail]
theorem joinR_eq {l : List Tok} (H : ∀ t ∈ l, t.tk.k ≠ 3 → t.tk.t ≠ []) : joinR l = joinL l := by
  unfold joinR
  rw [joinR_aux l H []]
  exact if_pos rfl
theorem tail_len : ∀ l : List Tok, (Lib.joinTail [32] (textsL l)).length ≤ sumL l + l.length
  | [] => by simp [textsL, Lib.joinTail]
  | t :: r => by
    have := tail_len r
    rw [textsL_cons]
    split
    · simp only [sumL, List.length_cons]; omega
    · simp only [Lib.joinTail, List.map_cons, List.flatten_cons, List.length_append, List.length_cons, List.length_nil, sumL] at this ⊢
      omega
theorem join_len : ∀ l : List Tok, (joinL l).length ≤ sumL l + l.length
  | [] => by simp [joinL, textsL, Lib.join_nil]
  | t :: r => by
    have h1 := join_len r
    have h2 := tail_len r
    unfold joinL at h1 ⊢
    rw [textsL_cons]
    split
    · simp only [sumL, List.length_cons]; omega
    · rw [Lib.join_cons, List.length_append]
      simp only [sumL, List.length_cons]
      omega
end Go.Proofs.YtioddoojjmeknaaDoor
