/- A slice of integers as it is read: the cells that a slice value leads to, whoever made them. No program. -/
import Derived.Test.YtkalflhepnbppaaOwn
namespace Go.Proofs.Ytkalflhepnbppaa
open Go.RowKit
set_option linter.unusedVariables false

/-- From the address a on (none: nothing is read) memory holds the integers l, below the heap's end. -/
def Rd (k : IntKind) (w : World) (a : Option Addr) (l : List Int) : Prop :=
  ∀ j, j < l.length → ∃ x, a = some x ∧ x.block < w.heap.size ∧ w.cell? (x.add j) = some (.int k (el l j))

section
variable {E : TypeId} {k : IntKind} {B : Nat} {w w' : World} {a : Option Addr} {l : List Int}
theorem Rd.nil (k : IntKind) (w : World) (a : Option Addr) : Rd k w a [] := fun j h => absurd h (by simp)
theorem Rd.at_ (h : Rd k w a l) {j : Nat} (hj : j < l.length) : ∃ x, a = some x ∧ x.block < w.heap.size ∧ w.cell? (x.add j) = some (.int k (el l j)) := h j hj
theorem block_add (x : Addr) (n : Nat) : (x.add n).block = x.block := by unfold Addr.add; split <;> rfl
theorem add_add (x : Addr) (i j : Nat) : (x.add i).add j = x.add (i + j) := by
  unfold Addr.add
  by_cases hi : i = 0 <;> by_cases hj : j = 0 <;> simp [hi, hj, Nat.add_assoc]
theorem Rd.cells (h : Rd k w a l) (hs : w.heap.size ≤ w'.heap.size) (hc : ∀ p : Addr, p.block < w.heap.size → w'.cell? p = w.cell? p) : Rd k w' a l := fun j hj => by
  obtain ⟨x, h1, h2, h3⟩ := h j hj
  exact ⟨x, h1, by omega, by rw [hc _ (by rw [block_add]; exact h2)]; exact h3⟩
theorem Rd.below {B' : Nat} (h : Rd k w a l) (hb : Below B' w w') (hB : w.heap.size ≤ B') : Rd k w' a l :=
  h.cells hb.size fun p hp => hb.cell (Nat.lt_of_lt_of_le hp hB)
theorem Rd.alloc (h : Rd k w a l) (o : Obj) : Rd k (w.alloc o) a l := h.below ((Below.refl _ _).alloc (Nat.le_refl _) _) (Nat.le_refl _)
theorem Rd.drew (h : Rd k w a l) : Rd k w.drew a l := h
theorem Rd.drewN (h : Rd k w a l) (n : Nat) : Rd k (w.drewN n) a l := h
theorem Rd.take (h : Rd k w a l) (n : Nat) : Rd k w a (l.take n) := fun j hj => by
  rw [List.length_take] at hj
  obtain ⟨x, h1, h2, h3⟩ := h j (by omega)
  exact ⟨x, h1, h2, by rw [h3, show el (l.take n) j = el l j from by simp [el, show j < n from by omega]]⟩
theorem Rd.of_row {g cap : Nat} (h : Row E k B w g cap l) : Rd k w (some ⟨g, 0, none⟩) l := fun j hj =>
  ⟨_, rfl, h.lt.2, by rw [show (⟨g, 0, none⟩ : Addr).add j = ⟨g, j, none⟩ from by unfold Addr.add; split <;> simp_all]; exact h.cell hj⟩
theorem Rd.of_own {n c : Nat} (h : Own E k B w (.slice a n c) l) : Rd k w a l := by
  rcases h.form with ⟨h1, rfl⟩ | ⟨g, cap, h1, hr⟩
  · exact Rd.nil _ _ _
  · simp only [Value.slice.injEq] at h1
    rw [h1.1]
    exact Rd.of_row hr
end

/-- What the frame of a law tells of a slice of integers that came in (the kit's skeleton spells it so). -/
def IsRow (k : IntKind) (w : World) (a : Option Addr) (len cap : Nat) (zs : List Int) : Prop :=
  (a = none ∧ len = 0 ∧ cap = 0 ∧ zs = []) ∨
  ∃ x, a = some x ∧ len ≤ cap ∧ cap ≤ maxLen ∧ zs.length = cap ∧ (∀ i, i < zs.length → w.cell? (x.add i) = some (.int k (zs.getD i 0))) ∧ ∀ n ∈ zs, (Lit.int k n).wf = true

/-- .. read as the list of its elements. -/
theorem IsRow.rd {k : IntKind} {w : World} {a : Option Addr} {len cap : Nat} {zs : List Int} (h : IsRow k w a len cap zs) :
    ∃ l : List Int, len = l.length ∧ l.length ≤ cap ∧ cap ≤ maxLen ∧ Rd k w a l ∧ ∀ j, j < l.length → (Lit.int k (el l j)).wf = true := by
  rcases h with ⟨rfl, rfl, rfl, rfl⟩ | ⟨x, rfl, h1, h2, h3, h4, h5⟩
  · exact ⟨[], rfl, Nat.le_refl _, Nat.zero_le _, Rd.nil _ _ _, fun j hj => absurd hj (by simp)⟩
  · refine ⟨zs.take len, by simp; omega, by simp; omega, h2, fun j hj => ?_, fun j hj => ?_⟩
    all_goals
      rw [List.length_take] at hj
      have e : el (zs.take len) j = zs.getD j 0 := by simp [el, show j < len from by omega]
      rw [e]
    · have hc := h4 j (by omega)
      exact ⟨x, rfl, by have := World.block_lt_of_cell? w _ hc; rwa [block_add] at this, hc⟩
    · rw [List.getD_eq_getElem?_getD, List.getElem?_eq_getElem (by omega)]
      exact h5 _ (List.getElem_mem _)
end Go.Proofs.Ytkalflhepnbppaa
