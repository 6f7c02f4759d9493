/- Layer 7: the lexer's tokens are such as the parser expects. -/
import Derived.Test.YthcdohggffpopaaGreatDoorC5LexY
import Derived.Test.YthcdohggffpopaaGreatDoorC5ParC
set_option linter.unusedVariables false
set_option linter.unusedSimpArgs false
namespace Go.Proofs.YthcdohggffpopaaGreatDoor
theorem kw_head : ∀ t ∈ kwL, isW (t.headD 0) = true ∧ isD (t.headD 0) = false := by decide
theorem int_head : ∀ x ∈ intsL, isW (x.1.headD 0) = true ∧ isD (x.1.headD 0) = false := by decide
theorem op_head : ∀ x ∈ opsL, isW (x.1.headD 0) = false := by decide
theorem kw_none {t : List UInt8} (h : isW (t.headD 0) = false ∨ isD (t.headD 0) = true) : isKw t = false := by
 have h1 : kwL.contains t = false := by
  rw [← Bool.not_eq_true, List.contains_iff_mem]
  intro hm
  obtain ⟨a, b⟩ := kw_head t hm
  rcases h with h | h
  ·rw [a] at h; cases h
  ·rw [b] at h; cases h
 have h2 : intW t = none := by
  unfold intW
  rw [Option.map_eq_none_iff, List.find?_eq_none]
  intro x hx e
  obtain ⟨a, b⟩ := int_head x hx
  rw [eq_of_beq e] at a b
  rcases h with h | h
  ·rw [a] at h; cases h
  ·rw [b] at h; cases h
 unfold isKw
 rw [h1, h2]; rfl
theorem tok_ok {V : Tk} {p : Ps} (h : GoodV V) : TokOK ⟨V, p⟩ := by
 obtain ⟨h3, hf⟩ := h
 have h1 := (hf [] (.inl rfl)).1
 rw [List.append_nil] at h1
 have hne : V.t ≠ [] := by
  intro e
  rw [e, firstL_nil] at h1
  simp only [Prod.mk.injEq, and_true] at h1
  rw [← h1] at h3
  exact h3 rfl
 unfold firstL at h1
 rw [if_neg hne] at h1
 split at h1
 ·rename_i hr
  have ht : (wnL (runL V.t)).1.t = runL V.t := (wnL_cases _ (by rw [h1])).1
  rw [h1] at ht
  have hW : isW (V.t.headD 0) = true := by
   have : ∀ l : List UInt8, runL l ≠ [] → isW (l.headD 0) = true := by
    intro l hl
    cases l with
    | nil => exact absurd rfl hl
    | cons c r =>
     unfold runL at hl
     rw [List.takeWhile_cons] at hl
     split at hl
     ·assumption
     ·exact absurd rfl hl
   exact this _ hr
  rw [← ht] at h1
  unfold wnL at h1
  split at h1
  ·rename_i hD
   split at h1
   ·simp only [Prod.mk.injEq, and_true] at h1
    have hk : V.k = 1 := by rw [← h1]
    exact ⟨by show V.k ≤ 2; omega, hne, fun _ => kw_none (.inr hD), fun _ => level_none fun x hx e => (by have := op_head x hx; rw [← (e : V.t = x.1), hW] at this; cases this), fun e => by have e : V.k = 0 := e; omega⟩
   ·simp only [Prod.mk.injEq] at h1
    rename_i hn
    exact absurd h1.2 hn
  ·split at h1
   ·simp only [Prod.mk.injEq] at h1
    omega
   ·simp only [Prod.mk.injEq, and_true] at h1
    have hk : V.k = 0 := by rw [← h1]
    exact ⟨by show V.k ≤ 2; omega, hne, fun e => absurd hk e, fun _ => level_none fun x hx e => (by have := op_head x hx; rw [← (e : V.t = x.1), hW] at this; cases this), fun _ e => by rw [(e : V.t = [125])] at hW; exact absurd hW (by decide)⟩
 ·rename_i hr
  have hW : isW (V.t.headD 0) = false := by
   have : ∀ l : List UInt8, l ≠ [] → ¬ runL l ≠ [] → isW (l.headD 0) = false := by
    intro l hl hr
    cases l with
    | nil => exact absurd rfl hl
    | cons c r =>
     unfold runL at hr
     rw [List.takeWhile_cons] at hr
     split at hr
     ·simp at hr
     ·rename_i hh; simpa using hh
   exact this _ hne hr
  split at h1
  ·simp only [Prod.mk.injEq] at h1; omega
  ·simp only [Prod.mk.injEq, and_true] at h1
   have hk : V.k = 2 := by rw [← h1]
   exact ⟨by show V.k ≤ 2; omega, hne, fun _ => kw_none (.inl hW), fun e => absurd hk e, fun e => by have e : V.k = 0 := e; omega⟩
theorem lexG_wf {b : Bool} {p : Ps} {s : List UInt8} {ts : List Tok} (h : lexG b p s = .ok ts) : WF ts := by
 obtain ⟨Vs, h1, h2⟩ := lexG_good s.length b p s ts (Nat.le_refl _) h
 obtain ⟨i, r, rfl, hi, hr⟩ := List.map_eq_append_iff.1 h1
 obtain ⟨e, r', rfl, he, hr'⟩ := List.map_eq_cons_iff.1 hr
 rw [List.map_eq_nil_iff] at hr'
 subst hr'
 refine ⟨i, e, rfl, he, fun t ht => ?_⟩
 have : t.tk ∈ Vs := by rw [← hi]; exact List.mem_map_of_mem ht
 exact tok_ok (V := t.tk) (p := t.p) (h2 _ this)
theorem lexL_wf {s : List UInt8} {ts : List Tok} (h : lexL s = .ok ts) : WF ts := by
 unfold lexL at h
 split at h
 ·cases h
 ·exact lexG_wf h
end Go.Proofs.YthcdohggffpopaaGreatDoor
