/- Layer 10, mathematics: what an expression of a list evaluates to. No program. -/
import Derived.Test.YtomimkgaelkaoaaGreatDoorC12WordP
set_option linter.unusedVariables false
set_option linter.unusedSimpArgs false
namespace Go.Proofs.YtomimkgaelkaoaaGreatDoor
structure XE where
 k : Int
 op : List UInt8
 n : Int
 s : List UInt8
 kids : List Int
abbrev EnvL := List (List UInt8 × Int)
def getE (e : EnvL) (s : List UInt8) : Option Int := (e.reverse.find? (fun x => decide (x.1 = s))).map (·.2)
def opsX (x : XE) : Option (List Int) :=
 if x.k = 0 ∨ x.k = 1 then some [] else if x.k = 2 then (if x.kids.length = 1 then some x.kids else none) else if x.k = 3 then (if x.kids.length = 2 then some x.kids else none) else none
def evX (x : XE) (e : EnvL) (v : Int → Int × Int) : Int × Int :=
 if x.k = 0 then (x.n, 0)
 else if x.k = 1 then (match getE e x.s with | none => (0, 11) | some n => (n, 0))
 else if (v (x.kids.getD 0 0)).2 ≠ 0 then v (x.kids.getD 0 0)
 else if x.k = 2 then (truthV (decide ((v (x.kids.getD 0 0)).1 = 0)), 0)
 else if (v (x.kids.getD 1 0)).2 ≠ 0 then v (x.kids.getD 1 0)
 else opR x.op (v (x.kids.getD 0 0)).1 (v (x.kids.getD 1 0)).1
def vat (V : List (Int × Int)) (i : Int) : Int × Int := if 0 ≤ i then V.getD i.toNat (0, 2) else (0, 2)
def oneX (V : List (Int × Int)) (x : XE) (e : EnvL) : Int × Int :=
 match opsX x with
 | none => (0, 2)
 | some ks => if ks.all (fun k => decide ((vat V k).2 ≠ 2)) = true then evX x e (vat V) else (0, 2)
def allX (xs : List XE) (e : EnvL) : List (Int × Int) := xs.foldl (fun V x => V ++ [oneX V x e]) []
def evalL (xs : List XE) (i : Int) (e : EnvL) : Int × Int := vat (allX xs e) i
theorem rev_ind {α : Type} {P : List α → Prop} (h0 : P []) (hs : ∀ l x, P l → P (l ++ [x])) (xs : List α) : P xs := by
 have : ∀ l : List α, P l.reverse := fun l => by
  induction l with
  | nil => exact h0
  | cons x l ih => rw [List.reverse_cons]; exact hs _ _ ih
 rw [← List.reverse_reverse xs]
 exact this _
theorem allX_snoc (xs : List XE) (x : XE) (e : EnvL) : allX (xs ++ [x]) e = allX xs e ++ [oneX (allX xs e) x e] := by
 unfold allX; rw [List.foldl_append]; rfl
theorem allX_len (xs : List XE) (e : EnvL) : (allX xs e).length = xs.length := by
 induction xs using rev_ind with
 | h0 => rfl
 | hs xs x ih => rw [allX_snoc, List.length_append, List.length_append, ih]; rfl
theorem allX_take (xs ys : List XE) (e : EnvL) : (allX (xs ++ ys) e).take xs.length = allX xs e := by
 induction ys using rev_ind with
 | h0 => rw [List.append_nil, ← allX_len xs e, List.take_length]
 | hs ys y ih =>
  rw [← List.append_assoc, allX_snoc, List.take_append_of_le_length (by rw [allX_len, List.length_append]; omega), ih]
theorem allX_at {xs : List XE} {i : Nat} {x : XE} (e : EnvL) (h : xs[i]? = some x) : (allX xs e)[i]? = some (oneX ((allX xs e).take i) x e) := by
 obtain ⟨hi, rfl⟩ := List.getElem?_eq_some_iff.1 h
 have e1 : xs = xs.take i ++ ([xs[i]] ++ xs.drop (i + 1)) := by simp
 have e2 : (allX xs e).take i = allX (xs.take i) e := by
  have := allX_take (xs.take i) ([xs[i]] ++ xs.drop (i + 1)) e
  rw [← e1, List.length_take, Nat.min_eq_left (by omega)] at this
  exact this
 have e3 : (allX xs e).take (i + 1) = allX (xs.take (i + 1)) e := by
  have := allX_take (xs.take (i + 1)) (xs.drop (i + 1)) e
  rw [List.take_append_drop, List.length_take, Nat.min_eq_left (by omega)] at this
  exact this
 have e4 : xs.take (i + 1) = xs.take i ++ [xs[i]] := by rw [List.take_succ_eq_append_getElem hi]
 have hl : (allX (xs.take i) e).length = i := by rw [allX_len, List.length_take]; omega
 rw [← List.getElem?_take_of_lt (Nat.lt_succ_self i), e3, e4, allX_snoc, e2, List.getElem?_append_right (by omega), hl]
 simp
theorem vat_nat (V : List (Int × Int)) (i : Nat) : vat V (i : Int) = V.getD i (0, 2) := by
 unfold vat; rw [if_pos (by omega)]; rfl
theorem vat_take {V : List (Int × Int)} {i : Nat} {k : Int} (h : k < i) : vat (V.take i) k = vat V k := by
 unfold vat
 split
 ·rw [List.getD_eq_getElem?_getD, List.getD_eq_getElem?_getD, List.getElem?_take_of_lt (by omega)]
 ·rfl
theorem vat_past {V : List (Int × Int)} {k : Int} (h : (vat V k).2 ≠ 2) : 0 ≤ k ∧ k < V.length := by
 unfold vat at h
 split at h
 ·refine ⟨by assumption, ?_⟩
  by_cases hk : k < V.length
  ·exact hk
  ·rw [List.getD_eq_getElem?_getD, List.getElem?_eq_none (by omega)] at h
   exact absurd rfl h
 ·exact absurd rfl h
theorem evX_congr {x : XE} {e : EnvL} {v v' : Int → Int × Int} {ks : List Int} (ho : opsX x = some ks) (h : ∀ k ∈ ks, v k = v' k) : evX x e v = evX x e v' := by
 unfold opsX at ho
 unfold evX
 by_cases h01 : x.k = 0 ∨ x.k = 1
 ·rcases h01 with h1 | h1 <;> simp [h1]
 ·rw [if_neg h01] at ho
  by_cases h2 : x.k = 2
  ·rw [if_pos h2] at ho
   split at ho
   ·rename_i hl
    cases ho
    have := h (x.kids.getD 0 0) (by rw [List.getD_eq_getElem?_getD, List.getElem?_eq_getElem (by omega)]; exact List.getElem_mem _)
    rw [this]
    simp [h2]
   ·cases ho
  ·rw [if_neg h2] at ho
   split at ho
   ·split at ho
    ·rename_i hl
     cases ho
     have h0 := h (x.kids.getD 0 0) (by rw [List.getD_eq_getElem?_getD, List.getElem?_eq_getElem (by omega)]; exact List.getElem_mem _)
     have h1 := h (x.kids.getD 1 0) (by rw [List.getD_eq_getElem?_getD, List.getElem?_eq_getElem (by omega)]; exact List.getElem_mem _)
     rw [h0, h1]
    ·cases ho
   ·cases ho
theorem ne2_ite {c : Prop} [Decidable c] {x y : Int × Int} (h1 : x.2 ≠ 2) (h2 : y.2 ≠ 2) : (if c then x else y).2 ≠ 2 := by split <;> assumption
theorem opR_two (l : List UInt8) (a b : Int) : (opR l a b).2 ≠ 2 := by
 unfold opR addR subR mulR divR modR shlR shrR
 repeat' apply ne2_ite
 all_goals first | exact (by decide : (0 : Int) ≠ 2) | exact (by decide : (4 : Int) ≠ 2) | exact (by decide : (5 : Int) ≠ 2) | exact (by decide : (6 : Int) ≠ 2)
theorem evX_two {x : XE} {e : EnvL} {v : Int → Int × Int} {ks : List Int} (ho : opsX x = some ks) (h : ∀ k ∈ ks, (v k).2 ≠ 2) : (evX x e v).2 ≠ 2 := by
 unfold opsX at ho
 unfold evX
 split
 ·exact (by decide : (0 : Int) ≠ 2)
 split
 ·split
  ·exact (by decide : (11 : Int) ≠ 2)
  ·exact (by decide : (0 : Int) ≠ 2)
 rename_i n0 n1
 rw [if_neg (by omega)] at ho
 have hk : ∀ j, j < x.kids.length → ks = x.kids → (v (x.kids.getD j 0)).2 ≠ 2 := fun j hj e => h _ (by rw [e, List.getD_eq_getElem?_getD, List.getElem?_eq_getElem hj]; exact List.getElem_mem _)
 split
 ·split at ho
  ·split at ho
   ·cases ho; exact hk 0 (by omega) rfl
   ·cases ho
  ·split at ho
   ·split at ho
    ·cases ho; exact hk 0 (by omega) rfl
    ·cases ho
   ·cases ho
 split
 ·show (0 : Int) ≠ 2; decide
 rename_i n2
 split
 ·rw [if_neg n2] at ho
  split at ho
  ·split at ho
   ·cases ho; exact hk 1 (by omega) rfl
   ·cases ho
  ·cases ho
 ·exact opR_two _ _ _
theorem ok_iff {xs : List XE} {i : Nat} {x : XE} (e : EnvL) (h : xs[i]? = some x) : (vat (allX xs e) i).2 ≠ 2 ↔ ∃ ks, opsX x = some ks ∧ ∀ k ∈ ks, 0 ≤ k ∧ k < i ∧ (vat (allX xs e) k).2 ≠ 2 := by
 have hv : vat (allX xs e) i = oneX ((allX xs e).take i) x e := by rw [vat_nat, List.getD_eq_getElem?_getD, allX_at e h]; rfl
 have hl : ((allX xs e).take i).length = i := by rw [List.length_take, allX_len]; have := (List.getElem?_eq_some_iff.1 h).1; omega
 rw [hv]
 unfold oneX
 cases ho : opsX x with
 | none => simp
 | some ks =>
  by_cases ha : ks.all (fun k => decide ((vat ((allX xs e).take i) k).2 ≠ 2)) = true
  ·simp only [ha, if_true]
   rw [List.all_eq_true] at ha
   refine ⟨fun _ => ⟨ks, rfl, fun k hk => ?_⟩, fun _ => evX_two ho fun k hk => of_decide_eq_true (ha k hk)⟩
   have := of_decide_eq_true (ha k hk)
   have hb := vat_past this
   rw [vat_take (by omega)] at this
   exact ⟨hb.1, by omega, this⟩
  ·simp only [ha]
   refine ⟨fun h => absurd rfl h, fun ⟨ks', e', hk⟩ => absurd ?_ ha⟩
   cases e'
   rw [List.all_eq_true]
   intro k hk'
   obtain ⟨h1, h2, h3⟩ := hk k hk'
   rw [decide_eq_true_eq, vat_take h2]
   exact h3
theorem val_eq {xs : List XE} {i : Nat} {x : XE} (e : EnvL) (h : xs[i]? = some x) (ho : (vat (allX xs e) i).2 ≠ 2) : vat (allX xs e) i = evX x e (vat (allX xs e)) := by
 obtain ⟨ks, hks, hk⟩ := (ok_iff e h).1 ho
 have hv : vat (allX xs e) i = oneX ((allX xs e).take i) x e := by rw [vat_nat, List.getD_eq_getElem?_getD, allX_at e h]; rfl
 rw [hv]
 unfold oneX
 rw [hks]
 simp only
 rw [if_pos]
 ·exact evX_congr hks fun k hk' => vat_take (hk k hk').2.1
 ·rw [List.all_eq_true]
  intro k hk'
  rw [decide_eq_true_eq, vat_take (hk k hk').2.1]
  exact (hk k hk').2.2
theorem val_no {xs : List XE} {i : Nat} (e : EnvL) (ho : ¬ (vat (allX xs e) i).2 ≠ 2) : vat (allX xs e) i = (0, 2) := by
 by_cases hi : i < xs.length
 ·have h : xs[i]? = some xs[i] := List.getElem?_eq_getElem hi
  have hv : vat (allX xs e) i = oneX ((allX xs e).take i) xs[i] e := by rw [vat_nat, List.getD_eq_getElem?_getD, allX_at e h]; rfl
  rw [hv] at ho ⊢
  unfold oneX at ho ⊢
  cases hks : opsX xs[i] with
  | none => rfl
  | some ks =>
   rw [hks] at ho
   simp only at ho ⊢
   split
   ·rename_i ha
    rw [if_pos ha] at ho
    refine absurd (evX_two hks fun k hk => ?_) ho
    exact of_decide_eq_true (List.all_eq_true.1 ha k hk)
   ·rfl
 ·rw [vat_nat, List.getD_eq_getElem?_getD, List.getElem?_eq_none (by rw [allX_len]; omega)]
  rfl
theorem val_out {xs : List XE} {i : Int} (e : EnvL) (h : i < 0 ∨ (xs.length : Int) ≤ i) : evalL xs i e = (0, 2) := by
 unfold evalL vat
 split
 ·rw [List.getD_eq_getElem?_getD, List.getElem?_eq_none (by rw [allX_len]; omega)]; rfl
 ·rfl
end Go.Proofs.YtomimkgaelkaoaaGreatDoor
