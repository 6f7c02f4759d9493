/- Layer 10, mathematics: the parts of an expression, gone through by a list; then their values, the lesser places first. No program. -/
import Derived.Test.YtoengahfkfmfeaaExP
set_option linter.unusedVariables false
set_option linter.unusedSimpArgs false
namespace Go.Proofs.Ytoengahfkfmfeaa

/-- Numbers below n, each once, are at most n. -/
theorem nodup_le : ∀ (n : Nat) (l : List Int), l.Nodup → (∀ y ∈ l, 0 ≤ y ∧ y < n) → l.length ≤ n
  | 0, l, _, h => by
    cases l with
    | nil => exact Nat.le_refl _
    | cons a l => have := h a (by simp); omega
  | n + 1, l, hd, h => by
    have h1 := nodup_le n (l.filter fun y => decide (y ≠ (n : Int))) (hd.filter _) (fun y hy => by
      rw [List.mem_filter, decide_eq_true_eq] at hy
      have := h y hy.1
      omega)
    have h2 : l.length ≤ (l.filter fun y => decide (y ≠ (n : Int))).length + 1 := by
      clear h h1
      induction l with
      | nil => simp
      | cons a l ih =>
        rw [List.nodup_cons] at hd
        by_cases ha : a = (n : Int)
        · have : l.filter (fun y => decide (y ≠ (n : Int))) = l := List.filter_eq_self.2 fun y hy => by
            rw [decide_eq_true_eq]; rintro rfl; exact hd.1 (ha ▸ hy)
          rw [List.filter_cons_of_neg (by simp [ha]), this]
          simp
        · rw [List.filter_cons_of_pos (by simp [ha])]
          have := ih hd.2
          simp only [List.length_cons]; omega
    omega
/-- What the list holds when i of it have been gone through: no place twice, none behind t; the operands of those gone through. -/
structure Pt (xs : List XE) (t : Int) (i : Nat) (l : List Int) : Prop where
  hd : l[0]? = some t
  nd : l.Nodup
  le : ∀ y ∈ l, 0 ≤ y ∧ y ≤ t
  ok : ∀ e, (vat (allX xs e) t).2 ≠ 2 → ∀ y ∈ l, (vat (allX xs e) y).2 ≠ 2
  done : ∀ j, j < i → ∀ y, l[j]? = some y → ∃ x ks, xs[y.toNat]? = some x ∧ opsX x = some ks ∧ ∀ k ∈ ks, 0 ≤ k ∧ k < y ∧ k ∈ l
theorem Pt.start {xs : List XE} {t : Int} (h0 : 0 ≤ t) : Pt xs t 0 [t] :=
  ⟨rfl, by simp, fun y hy => by simp at hy; omega, fun e h y hy => by simp at hy; subst hy; exact h, fun j hj => absurd hj (Nat.not_lt_zero _)⟩
theorem Pt.len {xs : List XE} {t : Int} {i : Nat} {l : List Int} (h : Pt xs t i l) : l.length ≤ t.toNat + 1 :=
  nodup_le _ l h.nd fun y hy => by have := h.le y hy; omega
theorem Pt.mem {xs : List XE} {t : Int} {i : Nat} {l : List Int} (h : Pt xs t i l) : t ∈ l := List.mem_of_getElem? h.hd
theorem Pt.step {xs : List XE} {t : Int} {i : Nat} {l : List Int} (h : Pt xs t i l) {y : Int} {x : XE} {ks : List Int} (hy : l[i]? = some y) (hx : xs[y.toNat]? = some x) (ho : opsX x = some ks) (hk : ∀ k ∈ ks, 0 ≤ k ∧ k < y ∧ k ∈ l) : Pt xs t (i + 1) l :=
  ⟨h.hd, h.nd, h.le, h.ok, fun j hj z hz => by
    rcases Nat.lt_succ_iff_lt_or_eq.1 hj with h1 | rfl
    · exact h.done j h1 z hz
    · rw [hy] at hz; cases hz
      exact ⟨x, ks, hx, ho, hk⟩⟩
/-- One operand more. -/
theorem Pt.add {xs : List XE} {t : Int} {i : Nat} {l : List Int} (h : Pt xs t i l) {y : Int} {x : XE} {ks : List Int} (hy : l[i]? = some y) (hx : xs[y.toNat]? = some x) (ho : opsX x = some ks) {k : Int} (hk : k ∈ ks) (h0 : 0 ≤ k) (hky : k < y) (hn : k ∉ l) : Pt xs t i (l ++ [k]) := by
  have hym : y ∈ l := List.mem_of_getElem? hy
  have hyl := h.le y hym
  refine ⟨?_, ?_, ?_, ?_, ?_⟩
  · rw [List.getElem?_append_left (by have := (List.getElem?_eq_some_iff.1 hy).1; omega)]; exact h.hd
  · rw [List.nodup_append]
    exact ⟨h.nd, by simp, fun a ha b hb e => by simp at hb; subst hb; subst e; exact hn ha⟩
  · intro z hz
    rcases List.mem_append.1 hz with hz | hz
    · exact h.le z hz
    · simp at hz; omega
  · intro e he z hz
    rcases List.mem_append.1 hz with hz | hz
    · exact h.ok e he z hz
    · simp at hz; subst hz
      have h1 := h.ok e he y hym
      have e1 : y = ((y.toNat : Nat) : Int) := by omega
      rw [e1] at h1
      obtain ⟨ks', ho', hk'⟩ := (ok_iff e hx).1 h1
      rw [ho] at ho'; cases ho'
      exact (hk' z hk).2.2
  · intro j hj z hz
    have hjl : j < l.length := by have := (List.getElem?_eq_some_iff.1 hy).1; omega
    rw [List.getElem?_append_left hjl] at hz
    obtain ⟨x', ks', a1, a2, a3⟩ := h.done j hj z hz
    exact ⟨x', ks', a1, a2, fun q hq => ⟨(a3 q hq).1, (a3 q hq).2.1, List.mem_append_left _ (a3 q hq).2.2⟩⟩
/-- An expression that is in the list and isn't right. -/
theorem Pt.bad {xs : List XE} {t : Int} {i : Nat} {l : List Int} (h : Pt xs t i l) {y : Int} (hy : l[i]? = some y) (hb : ∀ x ks, xs[y.toNat]? = some x → opsX x = some ks → ∃ k ∈ ks, ¬ (0 ≤ k ∧ k < y)) (e : EnvL) : evalL xs t e = (0, 2) := by
  have hym : y ∈ l := List.mem_of_getElem? hy
  have h0 := (h.le y hym).1
  have ht := (h.le t h.mem).1
  have e1 : y = ((y.toNat : Nat) : Int) := by omega
  have e2 : t = ((t.toNat : Nat) : Int) := by omega
  unfold evalL
  rw [e2]
  refine val_no e fun hok => ?_
  rw [← e2] at hok
  have h1 := h.ok e hok y hym
  cases hx : xs[y.toNat]? with
  | none =>
    apply h1
    have : (xs.length : Int) ≤ y := by have := List.getElem?_eq_none_iff.1 hx; omega
    rw [show vat (allX xs e) y = evalL xs y e from rfl, val_out e (.inr this)]
  | some x =>
    rw [e1] at h1
    obtain ⟨ks, ho, hk⟩ := (ok_iff e hx).1 h1
    obtain ⟨k, hk1, hk2⟩ := hb x ks hx ho
    have := hk k hk1
    exact hk2 ⟨this.1, by omega⟩
/-- All have been gone through: all are evaluable. -/
theorem Pt.all {xs : List XE} {t : Int} {l : List Int} (h : Pt xs t l.length l) (e : EnvL) : ∀ (n : Nat) (y : Int), y ∈ l → y < n → (vat (allX xs e) y).2 ≠ 2
  | 0, y, hy, hn => by have := h.le y hy; omega
  | n + 1, y, hy, hn => by
    obtain ⟨j, hj⟩ := List.mem_iff_getElem?.1 hy
    obtain ⟨x, ks, hx, ho, hk⟩ := h.done j (List.getElem?_eq_some_iff.1 hj).1 y hj
    have h0 := (h.le y hy).1
    have e1 : y = ((y.toNat : Nat) : Int) := by omega
    rw [e1]
    refine (ok_iff e hx).2 ⟨ks, ho, fun k hk' => ?_⟩
    obtain ⟨b1, b2, b3⟩ := hk k hk'
    exact ⟨b1, by omega, h.all e n k b3 (by omega)⟩
/-- What the parts are, as Eval goes through them: ascending, the operands of each ahead of it. -/
structure Parts (xs : List XE) (t : Int) (l : List Int) : Prop where
  mem : t ∈ l
  len : l.length ≤ t.toNat + 1
  all : ∀ j y, l[j]? = some y → 0 ≤ y ∧ y ≤ t ∧ ∃ x ks, xs[y.toNat]? = some x ∧ opsX x = some ks ∧ ∀ k ∈ ks, 0 ≤ k ∧ k < y ∧ k ∈ l.take j
  ok : ∀ e y, y ∈ l → (vat (allX xs e) y).2 ≠ 2
theorem Pt.parts {xs : List XE} {t : Int} {l : List Int} (h : Pt xs t l.length l) : Parts xs t (l.mergeSort fun x y => decide (x ≤ y)) := by
  have hp : (l.mergeSort fun x y => decide (x ≤ y)).Perm l := List.mergeSort_perm _ _
  have hs : (l.mergeSort fun x y => decide (x ≤ y)).Pairwise fun a b => a ≤ b := by
    have := List.pairwise_mergeSort (le := fun (x y : Int) => decide (x ≤ y)) (fun a b c h1 h2 => by rw [decide_eq_true_eq] at *; omega) (fun a b => by rw [Bool.or_eq_true, decide_eq_true_eq, decide_eq_true_eq]; omega) l
    exact this.imp fun h => of_decide_eq_true h
  refine ⟨hp.mem_iff.2 h.mem, by rw [hp.length_eq]; exact h.len, fun j y hj => ?_, fun e y hy => h.all e (y.toNat + 1) y (hp.mem_iff.1 hy) (by omega)⟩
  have hy : y ∈ l := hp.mem_iff.1 (List.mem_of_getElem? hj)
  obtain ⟨i, hi⟩ := List.mem_iff_getElem?.1 hy
  obtain ⟨x, ks, hx, ho, hk⟩ := h.done i (List.getElem?_eq_some_iff.1 hi).1 y hi
  refine ⟨(h.le y hy).1, (h.le y hy).2, x, ks, hx, ho, fun k hk' => ?_⟩
  obtain ⟨b1, b2, b3⟩ := hk k hk'
  refine ⟨b1, b2, ?_⟩
  obtain ⟨q, hq⟩ := List.mem_iff_getElem?.1 (hp.mem_iff.2 b3)
  have hqj : q < j := by
    rcases Nat.lt_trichotomy q j with h1 | rfl | h1
    · exact h1
    · rw [hq] at hj; cases hj; omega
    · have hql := (List.getElem?_eq_some_iff.1 hq)
      have hjl := (List.getElem?_eq_some_iff.1 hj)
      have := List.pairwise_iff_getElem.1 hs j q hjl.1 hql.1 h1
      rw [hjl.2, hql.2] at this
      omega
  refine List.mem_of_getElem? (i := q) ?_
  rw [List.getElem?_take_of_lt hqj]; exact hq
end Go.Proofs.Ytoengahfkfmfeaa
