/- Layer 11, mathematics: the Range of an expression of a list. No program. -/
import Derived.Test.YtoengahfkfmfeaaBdP
import Derived.Test.YtoengahfkfmfeaaExP
set_option linter.unusedVariables false
set_option linter.unusedSimpArgs false
namespace Go.Proofs.Ytoengahfkfmfeaa

abbrev RngL := List (List UInt8 × (Int × Int))
/-- The range of a name: that of its last entry. -/
def getB (e : RngL) (s : List UInt8) : Option (Int × Int) := (e.reverse.find? (fun x => decide (x.1 = s))).map (·.2)
/-- The range of a name; none if it is not valid. -/
def nameB (e : RngL) (s : List UInt8) : Option (Int × Int) := (getB e s).bind fun r => if r.1 ≤ r.2 then some r else none
def notB (a : Int × Int) : Int × Int := if a.1 ≠ 0 then (0, 0) else if a.2 = 0 then (1, 1) else (0, 1)
/-- The range of an expression by those of its operands. -/
def ofX (x : XE) (R : RngL) (v : Int → Option (Int × Int)) : Option (Int × Int) :=
  if x.k = 0 then some (x.n, x.n)
  else if x.k = 1 then nameB R x.s
  else if x.k = 2 then (v (x.kids.getD 0 0)).map notB
  else (v (x.kids.getD 0 0)).bind fun a => (v (x.kids.getD 1 0)).bind fun b => opB x.op a b
def rat (V : List (Option (Int × Int))) (i : Int) : Option (Int × Int) := if 0 ≤ i then V.getD i.toNat none else none
def allB (xs : List XE) (R : RngL) : List (Option (Int × Int)) := xs.foldl (fun V x => V ++ [ofX x R (rat V)]) []
/-- What Of answers. -/
def ofL (xs : List XE) (t : Int) (R : RngL) : Option (Int × Int) := if (evalL xs t []).2 = 2 then none else rat (allB xs R) t

theorem allB_snoc (xs : List XE) (x : XE) (R : RngL) : allB (xs ++ [x]) R = allB xs R ++ [ofX x R (rat (allB xs R))] := by
  unfold allB; rw [List.foldl_append]; rfl
theorem allB_len (xs : List XE) (R : RngL) : (allB xs R).length = xs.length := by
  induction xs using rev_ind with
  | h0 => rfl
  | hs xs x ih => rw [allB_snoc, List.length_append, List.length_append, ih]; rfl
theorem allB_take (xs ys : List XE) (R : RngL) : (allB (xs ++ ys) R).take xs.length = allB xs R := by
  induction ys using rev_ind with
  | h0 => rw [List.append_nil, ← allB_len xs R, List.take_length]
  | hs ys y ih =>
    rw [← List.append_assoc, allB_snoc, List.take_append_of_le_length (by rw [allB_len, List.length_append]; omega), ih]
theorem allB_at {xs : List XE} {i : Nat} {x : XE} (R : RngL) (h : xs[i]? = some x) : (allB xs R)[i]? = some (ofX x R (rat ((allB xs R).take i))) := by
  obtain ⟨hi, rfl⟩ := List.getElem?_eq_some_iff.1 h
  have e1 : xs = xs.take i ++ ([xs[i]] ++ xs.drop (i + 1)) := by simp
  have e2 : (allB xs R).take i = allB (xs.take i) R := by
    have := allB_take (xs.take i) ([xs[i]] ++ xs.drop (i + 1)) R
    rw [← e1, List.length_take, Nat.min_eq_left (by omega)] at this
    exact this
  have e3 : (allB xs R).take (i + 1) = allB (xs.take (i + 1)) R := by
    have := allB_take (xs.take (i + 1)) (xs.drop (i + 1)) R
    rw [List.take_append_drop, List.length_take, Nat.min_eq_left (by omega)] at this
    exact this
  have e4 : xs.take (i + 1) = xs.take i ++ [xs[i]] := by rw [List.take_succ_eq_append_getElem hi]
  have hl : (allB (xs.take i) R).length = i := by rw [allB_len, List.length_take]; omega
  rw [← List.getElem?_take_of_lt (Nat.lt_succ_self i), e3, e4, allB_snoc, e2, List.getElem?_append_right (by omega), hl]
  simp
theorem rat_nat (V : List (Option (Int × Int))) (i : Nat) : rat V (i : Int) = V.getD i none := by
  unfold rat; rw [if_pos (by omega)]; rfl
theorem rat_take {V : List (Option (Int × Int))} {i : Nat} {k : Int} (h : k < i) : rat (V.take i) k = rat V k := by
  unfold rat
  split
  · rw [List.getD_eq_getElem?_getD, List.getD_eq_getElem?_getD, List.getElem?_take_of_lt (by omega)]
  · rfl
theorem ofX_congr {x : XE} {R : RngL} {v v' : Int → Option (Int × Int)} {ks : List Int} (ho : opsX x = some ks) (h : ∀ k ∈ ks, v k = v' k) : ofX x R v = ofX x R v' := by
  unfold opsX at ho
  unfold ofX
  by_cases h01 : x.k = 0 ∨ x.k = 1
  · rcases h01 with h1 | h1 <;> simp [h1]
  · rw [if_neg h01] at ho
    by_cases h2 : x.k = 2
    · rw [if_pos h2] at ho
      split at ho
      · rename_i hl
        cases ho
        have := h (x.kids.getD 0 0) (by rw [List.getD_eq_getElem?_getD, List.getElem?_eq_getElem (by omega)]; exact List.getElem_mem _)
        rw [this]
        simp [h2]
      · cases ho
    · rw [if_neg h2] at ho
      split at ho
      · split at ho
        · rename_i hl
          cases ho
          have h0 := h (x.kids.getD 0 0) (by rw [List.getD_eq_getElem?_getD, List.getElem?_eq_getElem (by omega)]; exact List.getElem_mem _)
          have h1 := h (x.kids.getD 1 0) (by rw [List.getD_eq_getElem?_getD, List.getElem?_eq_getElem (by omega)]; exact List.getElem_mem _)
          rw [h0, h1]
        · cases ho
      · cases ho
/-- The range at a place whose operands stand ahead of it. -/
theorem rat_eq {xs : List XE} {i : Nat} {x : XE} {ks : List Int} (R : RngL) (h : xs[i]? = some x) (ho : opsX x = some ks) (hk : ∀ k ∈ ks, 0 ≤ k ∧ k < (i : Int)) : rat (allB xs R) i = ofX x R (rat (allB xs R)) := by
  rw [rat_nat, List.getD_eq_getElem?_getD, allB_at R h]
  exact ofX_congr ho fun k hk' => rat_take (hk k hk').2
/-- Whether an expression is evaluable doesn't hang on the names. -/
theorem ok_any (xs : List XE) (e e' : EnvL) : ∀ (n : Nat) (i : Int), i < n → (vat (allX xs e) i).2 ≠ 2 → (vat (allX xs e') i).2 ≠ 2
  | 0, i, hi, h => by have := (vat_past h).1; omega
  | n + 1, i, hi, h => by
    have hp := vat_past h
    rw [allX_len] at hp
    obtain ⟨m, rfl⟩ : ∃ m : Nat, i = (m : Int) := ⟨i.toNat, by omega⟩
    have hx : xs[m]? = some (xs[m]'(by omega)) := List.getElem?_eq_getElem (by omega)
    obtain ⟨ks, ho, hk⟩ := (ok_iff e hx).1 h
    exact (ok_iff e' hx).2 ⟨ks, ho, fun k hk' => ⟨(hk k hk').1, (hk k hk').2.1, ok_any xs e e' n k (by have := (hk k hk').2.1; omega) (hk k hk').2.2⟩⟩
theorem eval_two {xs : List XE} {t : Int} {e e' : EnvL} (h : (evalL xs t e).2 = 2) : (evalL xs t e').2 = 2 := by
  by_cases h2 : (evalL xs t e').2 = 2
  · exact h2
  · exact absurd h (ok_any xs e' e (t.toNat + 1) t (by omega) h2)
/-- Names whose numbers lie in their ranges. -/
structure Fits (R : RngL) (E : EnvL) : Prop where
  num : ∀ s n, getE E s = some n → ∃ r, nameB R s = some r ∧ InR n r
  wr : ∀ s r, nameB R s = some r → WR r ∧ r.1 ≤ r.2
theorem notB_in {a : Int × Int} {n : Int} (h : InR n a) (h0 : 0 ≤ a.1) : InR (truthV (decide (n = 0))) (notB a) := by
  obtain ⟨h1, h2⟩ := h
  unfold notB
  split
  · have : ¬ n = 0 := by omega
    simp [this, truthV, InR]
  · split
    · have : n = 0 := by omega
      simp [this, truthV, InR]
    · exact truth_in _
theorem notB_ok (a : Int × Int) : WR (notB a) ∧ (notB a).1 ≤ (notB a).2 := by
  unfold notB
  split
  · exact ⟨⟨W0, W0⟩, Int.le_refl _⟩
  · split
    · exact ⟨⟨W1, W1⟩, Int.le_refl _⟩
    · exact ⟨⟨W0, W1⟩, (by decide : (0 : Int) ≤ 1)⟩
theorem fits_mk {R : RngL} {E : EnvL} (hs : ∀ s r, nameB R s = some r → WR r) (hn : ∀ s n, getE E s = some n → ∃ r, nameB R s = some r ∧ InR n r) : Fits R E :=
  ⟨hn, fun s r h => ⟨hs s r h, by
    unfold nameB at h
    obtain ⟨q, h1, h2⟩ := Option.bind_eq_some_iff.1 h
    split at h2
    · cases h2; assumption
    · cases h2⟩⟩
def wnums (xs : List XE) : Prop := ∀ x ∈ xs, W64 x.n
/-- Every Range of a place is valid. -/
theorem rat_ok {xs : List XE} {R : RngL} (hx : ∀ x ∈ xs, W64 x.n) (hR : ∀ s r, nameB R s = some r → WR r ∧ r.1 ≤ r.2) : ∀ (i : Int) r, rat (allB xs R) i = some r → WR r ∧ r.1 ≤ r.2 := by
  have key : ∀ o ∈ allB xs R, ∀ r, o = some r → WR r ∧ r.1 ≤ r.2 := by
    induction xs using rev_ind with
    | h0 => intro o ho; exact absurd ho (by simp [allB])
    | hs xs x ih =>
      have ih := ih fun y hy => hx y (by simp [hy])
      have hr : ∀ k r, rat (allB xs R) k = some r → WR r ∧ r.1 ≤ r.2 := fun k r h => by
        unfold rat at h
        split at h
        · rw [List.getD_eq_getElem?_getD] at h
          cases hk : (allB xs R)[k.toNat]? with
          | none => rw [hk] at h; cases h
          | some o => rw [hk] at h; exact ih o (List.mem_of_getElem? hk) r h
        · cases h
      intro o ho
      rw [allB_snoc] at ho
      rcases List.mem_append.1 ho with ho | ho
      · exact ih o ho
      · simp at ho
        subst ho
        intro r h
        unfold ofX at h
        split at h
        · cases h; have := hx x (by simp); exact ⟨⟨this, this⟩, Int.le_refl _⟩
        split at h
        · exact hR _ _ h
        split at h
        · obtain ⟨a, _, rfl⟩ := Option.map_eq_some_iff.1 h
          exact notB_ok a
        · obtain ⟨a, ha, h⟩ := Option.bind_eq_some_iff.1 h
          obtain ⟨b, hb, h⟩ := Option.bind_eq_some_iff.1 h
          exact opB_ok (hr _ _ ha).1 (hr _ _ hb).1 h
  intro i r h
  unfold rat at h
  split at h
  · rw [List.getD_eq_getElem?_getD] at h
    cases hk : (allB xs R)[i.toNat]? with
    | none => rw [hk] at h; cases h
    | some o => rw [hk] at h; exact key o (List.mem_of_getElem? hk) r h
  · cases h
theorem kid0 {x : XE} {ks : List Int} (ho : opsX x = some ks) (h0 : ¬ x.k = 0) (h1 : ¬ x.k = 1) : x.kids.getD 0 0 ∈ ks := by
  unfold opsX at ho
  rw [if_neg (by omega)] at ho
  have m : ∀ (l : List Int) , 0 < l.length → l.getD 0 0 ∈ l := fun l hl => by rw [List.getD_eq_getElem?_getD, List.getElem?_eq_getElem hl]; exact List.getElem_mem _
  split at ho <;> split at ho
  · cases ho; exact m _ (by omega)
  · cases ho
  · split at ho
    · cases ho; exact m _ (by omega)
    · cases ho
  · cases ho
theorem kid1 {x : XE} {ks : List Int} (ho : opsX x = some ks) (h0 : ¬ x.k = 0) (h1 : ¬ x.k = 1) (h2 : ¬ x.k = 2) : x.kids.getD 1 0 ∈ ks := by
  unfold opsX at ho
  rw [if_neg (by omega), if_neg h2] at ho
  have m : ∀ (l : List Int) , 1 < l.length → l.getD 1 0 ∈ l := fun l hl => by rw [List.getD_eq_getElem?_getD, List.getElem?_eq_getElem hl]; exact List.getElem_mem _
  split at ho
  · split at ho
    · cases ho; exact m _ (by omega)
    · cases ho
  · cases ho
theorem pair_of {p : Int × Int} (h : p.2 = 0) : p = (p.1, 0) := Prod.ext rfl h
/-- An expression that comes to a number comes to one in its range. -/
theorem rat_holds {xs : List XE} {R : RngL} {E : EnvL} (hx : ∀ x ∈ xs, W64 x.n) (hf : Fits R E) : ∀ (n : Nat) (i : Int), i < n → (vat (allX xs E) i).2 = 0 → ∃ r, rat (allB xs R) i = some r ∧ InR (vat (allX xs E) i).1 r
  | 0, i, hi, h => by have := (vat_past (V := allX xs E) (k := i) (by rw [h]; decide)).1; omega
  | n + 1, i, hi, h => by
    have h2 : (vat (allX xs E) i).2 ≠ 2 := by rw [h]; decide
    have hp := vat_past h2
    rw [allX_len] at hp
    obtain ⟨m, rfl⟩ : ∃ m : Nat, i = (m : Int) := ⟨i.toNat, by omega⟩
    obtain ⟨x, hxm⟩ : ∃ x, xs[m]? = some x := ⟨_, List.getElem?_eq_getElem (by omega)⟩
    obtain ⟨ks, ho, hk⟩ := (ok_iff E hxm).1 h2
    rw [rat_eq R hxm ho fun k hk' => ⟨(hk k hk').1, (hk k hk').2.1⟩]
    have hv := val_eq E hxm h2
    have hok := rat_ok hx hf.wr
    rw [hv] at h ⊢
    have ih : ∀ k ∈ ks, (vat (allX xs E) k).2 = 0 → ∃ r, rat (allB xs R) k = some r ∧ InR (vat (allX xs E) k).1 r := fun k hk' h' => rat_holds hx hf n k (by have := (hk k hk').2.1; omega) h'
    unfold evX at h ⊢
    unfold ofX
    split
    · exact ⟨_, rfl, Int.le_refl _, Int.le_refl _⟩
    rename_i k0
    rw [if_neg k0] at h
    split
    · rename_i k1
      rw [if_pos k1] at h
      cases hg : getE E x.s with
      | none => rw [hg] at h; exact absurd h (by decide)
      | some u =>
        obtain ⟨r, h3, h4⟩ := hf.num _ _ hg
        exact ⟨r, h3, h4⟩
    rename_i k1
    rw [if_neg k1] at h
    have m0 := kid0 ho k0 k1
    by_cases e0 : (vat (allX xs E) (x.kids.getD 0 0)).2 = 0
    · have e0' : ¬ (vat (allX xs E) (x.kids.getD 0 0)).2 ≠ 0 := fun g => g e0
      obtain ⟨a, ha, hin⟩ := ih _ m0 e0
      rw [if_neg e0'] at h ⊢
      by_cases k2 : x.k = 2
      · rw [if_pos k2, if_pos k2, ha]
        exact ⟨_, rfl, notB_in hin (hok _ _ ha).1.1.1⟩
      · rw [if_neg k2] at h ⊢
        rw [if_neg k2]
        have m1 := kid1 ho k0 k1 k2
        by_cases e1 : (vat (allX xs E) (x.kids.getD 1 0)).2 = 0
        · have e1' : ¬ (vat (allX xs E) (x.kids.getD 1 0)).2 ≠ 0 := fun g => g e1
          obtain ⟨b, hb, hin2⟩ := ih _ m1 e1
          rw [if_neg e1'] at h ⊢
          rw [ha, hb]
          exact opB_holds (hok _ _ ha).1 (hok _ _ hb).1 hin hin2 (pair_of h)
        · rw [if_pos e1] at h
          exact absurd h e1
    · rw [if_pos e0] at h
      exact absurd h e0
/-- Of points: the point of the number. -/
theorem rat_point {xs : List XE} {R : RngL} {E : EnvL} (hf : ∀ s, nameB R s = (getE E s).map fun n => (n, n)) : ∀ (n : Nat) (i : Int), i < n → (vat (allX xs E) i).2 ≠ 2 → rat (allB xs R) i = if (vat (allX xs E) i).2 = 0 then some ((vat (allX xs E) i).1, (vat (allX xs E) i).1) else none
  | 0, i, hi, h => by have := (vat_past h).1; omega
  | n + 1, i, hi, h2 => by
    have hp := vat_past h2
    rw [allX_len] at hp
    obtain ⟨m, rfl⟩ : ∃ m : Nat, i = (m : Int) := ⟨i.toNat, by omega⟩
    obtain ⟨x, hxm⟩ : ∃ x, xs[m]? = some x := ⟨_, List.getElem?_eq_getElem (by omega)⟩
    obtain ⟨ks, ho, hk⟩ := (ok_iff E hxm).1 h2
    rw [rat_eq R hxm ho fun k hk' => ⟨(hk k hk').1, (hk k hk').2.1⟩, val_eq E hxm h2]
    have ih : ∀ k ∈ ks, rat (allB xs R) k = if (vat (allX xs E) k).2 = 0 then some ((vat (allX xs E) k).1, (vat (allX xs E) k).1) else none := fun k hk' => rat_point hf n k (by have := (hk k hk').2.1; omega) (hk k hk').2.2
    unfold evX ofX
    by_cases k0 : x.k = 0
    · simp [k0]
    by_cases k1 : x.k = 1
    · rw [if_neg k0, if_pos k1, if_neg k0, if_pos k1, hf]
      cases getE E x.s with
      | none => simp
      | some u => simp
    rw [if_neg k0, if_neg k1, if_neg k0, if_neg k1, ih _ (kid0 ho k0 k1)]
    by_cases e0 : (vat (allX xs E) (x.kids.getD 0 0)).2 = 0
    · have e0' : ¬ (vat (allX xs E) (x.kids.getD 0 0)).2 ≠ 0 := fun g => g e0
      rw [if_neg e0', if_pos e0]
      by_cases k2 : x.k = 2
      · rw [if_pos k2, if_pos k2]
        generalize (vat (allX xs E) (x.kids.getD 0 0)).1 = u
        by_cases q : u = 0 <;> simp [q, notB, truthV]
      · rw [if_neg k2, if_neg k2, ih _ (kid1 ho k0 k1 k2)]
        by_cases e1 : (vat (allX xs E) (x.kids.getD 1 0)).2 = 0
        · have e1' : ¬ (vat (allX xs E) (x.kids.getD 1 0)).2 ≠ 0 := fun g => g e1
          rw [if_neg e1', if_pos e1]
          exact opB_point
        · rw [if_pos e1, if_neg e1]
          rfl
    · rw [if_pos e0, if_neg e0]
      split <;> rfl
/-- Part of one that has no range: has none. -/
theorem rat_up {xs : List XE} {R : RngL} {i : Nat} {x : XE} {ks : List Int} (h : xs[i]? = some x) (ho : opsX x = some ks) (hk : ∀ k ∈ ks, 0 ≤ k ∧ k < (i : Int)) {k : Int} (hm : k ∈ ks) (hn : rat (allB xs R) k = none) : rat (allB xs R) i = none := by
  rw [rat_eq R h ho hk]
  unfold opsX at ho
  unfold ofX
  by_cases h01 : x.k = 0 ∨ x.k = 1
  · rw [if_pos h01] at ho; cases ho; simp at hm
  rw [if_neg h01] at ho
  rw [if_neg (by omega), if_neg (by omega)]
  by_cases h2 : x.k = 2
  · rw [if_pos h2] at ho ⊢
    split at ho
    · rename_i hl
      cases ho
      match hkk : x.kids, hl with
      | [k0], _ => rw [hkk] at hm; simp at hm; subst hm; simp [hn]
    · cases ho
  · rw [if_neg h2] at ho ⊢
    split at ho
    · split at ho
      · rename_i hl
        cases ho
        match hkk : x.kids, hl with
        | [k0, k1], _ =>
          rw [hkk] at hm; simp at hm
          rcases hm with rfl | rfl
          · simp [hn]
          · cases rat (allB xs R) k0 <;> simp [hn]
      · cases ho
    · cases ho
end Go.Proofs.Ytoengahfkfmfeaa
