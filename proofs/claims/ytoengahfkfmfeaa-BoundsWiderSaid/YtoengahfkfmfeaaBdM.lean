/- Layer 11, mathematics of the laws: names, ranges, numbers. No program. -/
import Derived.Test.YtoengahfkfmfeaaBdJ
set_option linter.unusedVariables false
set_option linter.unusedSimpArgs false
namespace Go.Proofs.Ytoengahfkfmfeaa

def pOf (x : List UInt8 × (Int × Int × Int)) : List UInt8 × (Int × Int) := (x.1, ((eOf x).2, (eOf x).2))
theorem getE_of (u : VarL) (s : List UInt8) : getE (u.map eOf) s = (u.reverse.find? (fun x => decide (x.1 = s))).map (fun x => (eOf x).2) := by
  unfold getE
  rw [← List.map_reverse, List.find?_map, Option.map_map]
  rfl
theorem getB_of (u : VarL) (s : List UInt8) : getB (u.map rOf) s = (u.reverse.find? (fun x => decide (x.1 = s))).map (fun x => (rOf x).2) := by
  unfold getB
  rw [← List.map_reverse, List.find?_map, Option.map_map]
  rfl
theorem getP_of (u : VarL) (s : List UInt8) : getB (u.map pOf) s = (u.reverse.find? (fun x => decide (x.1 = s))).map (fun x => (pOf x).2) := by
  unfold getB
  rw [← List.map_reverse, List.find?_map, Option.map_map]
  rfl
def VW (u : VarL) : Prop := ∀ x ∈ u, W64 x.2.1 ∧ W64 x.2.2.1 ∧ W64 x.2.2.2
theorem rOf_w {u : VarL} (h : VW u) : ∀ r ∈ u.map rOf, WR r.2 := fun r hr => by
  obtain ⟨x, hx, rfl⟩ := List.mem_map.1 hr
  exact ⟨(h x hx).1, (h x hx).2.1⟩
theorem eOf_w {u : VarL} (h : VW u) : ∀ r ∈ u.map eOf, W64 r.2 := fun r hr => by
  obtain ⟨x, hx, rfl⟩ := List.mem_map.1 hr
  obtain ⟨⟨a1, a2⟩, ⟨b1, b2⟩, c1, c2⟩ := h x hx
  unfold W64 eOf
  simp only
  omega
theorem pOf_w {u : VarL} (h : VW u) : ∀ r ∈ u.map pOf, WR r.2 := fun r hr => by
  obtain ⟨x, hx, rfl⟩ := List.mem_map.1 hr
  have := eOf_w h (eOf x) (List.mem_map.2 ⟨x, hx, rfl⟩)
  exact ⟨this, this⟩
theorem fits_of {u : VarL} (h : VW u) (hv : ∀ x ∈ u, x.2.1 ≤ x.2.2.1) : Fits (u.map rOf) (u.map eOf) :=
  ⟨fun s n hn => by
    rw [getE_of] at hn
    obtain ⟨x, hx, rfl⟩ := Option.map_eq_some_iff.1 hn
    have hm : x ∈ u := by have := List.mem_of_find?_eq_some hx; simpa using this
    have hl := hv x hm
    refine ⟨(rOf x).2, ?_, ?_⟩
    · unfold nameB
      rw [getB_of, hx]
      show (if x.2.1 ≤ x.2.2.1 then some (x.2.1, x.2.2.1) else none) = _
      rw [if_pos hl]; rfl
    · unfold InR eOf rOf
      simp only
      omega, fun s r hr => name_valid (rOf_w h) s r hr⟩
theorem point_of (u : VarL) (s : List UInt8) : nameB (u.map pOf) s = (getE (u.map eOf) s).map fun n => (n, n) := by
  unfold nameB
  rw [getP_of, getE_of]
  cases u.reverse.find? (fun x => decide (x.1 = s)) with
  | none => rfl
  | some x => show (if (eOf x).2 ≤ (eOf x).2 then some ((eOf x).2, (eOf x).2) else none) = _; rw [if_pos (Int.le_refl _)]; rfl
theorem ofL_ok {xs : List XE} {R : RngL} (hx : ∀ x ∈ xs, W64 x.n) (hR : ∀ u ∈ R, WR u.2) (t : Int) : ((ofL xs t R).getD (0, 0)).1 ≤ ((ofL xs t R).getD (0, 0)).2 := by
  cases h : ofL xs t R with
  | none => exact Int.le_refl _
  | some r =>
    unfold ofL at h
    split at h
    · cases h
    · exact (rat_ok hx (name_valid hR) t r h).2
theorem ofL_holds {xs : List XE} {R : RngL} {E : EnvL} (hx : ∀ x ∈ xs, W64 x.n) (hf : Fits R E) {t : Int} (h : (evalL xs t E).2 = 0) : ∃ r, ofL xs t R = some r ∧ InR (evalL xs t E).1 r := by
  have h2 : ¬ (evalL xs t []).2 = 2 := fun e => by rw [eval_two e] at h; exact absurd h (by decide)
  obtain ⟨r, h3, h4⟩ := rat_holds hx hf (t.toNat + 1) t (by omega) h
  exact ⟨r, by unfold ofL; rw [if_neg h2]; exact h3, h4⟩
theorem ofL_point (xs : List XE) (u : VarL) (t : Int) : ofL xs t (u.map pOf) = if (evalL xs t (u.map eOf)).2 = 0 then some ((evalL xs t (u.map eOf)).1, (evalL xs t (u.map eOf)).1) else none := by
  unfold ofL
  split
  · rename_i h
    rw [eval_two (e' := u.map eOf) h, if_neg (by decide)]
  · rename_i h
    exact rat_point (point_of u) (t.toNat + 1) t (by omega) (ok_any xs [] (u.map eOf) (t.toNat + 1) t (by omega) h)
end Go.Proofs.Ytoengahfkfmfeaa
