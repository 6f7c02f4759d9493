/- A slice of strings that came in: what the frame tells of it, and how it is read. No program. -/
import Derived.WalkKit
import Derived.Below
namespace Go.Proofs.Ytjcpepjhnnpbpaa
open Go.RowKit
set_option linter.unusedVariables false

/-- What the frame of a law tells of a slice of strings that came in: it is nil, or it leads to 'cap' cells, the strings 'ss' (the first 'len' are its elements). -/
def IsStrs (w : World) (a : Option Addr) (len cap : Nat) (ss : List ByteArray) : Prop :=
  (a = none ∧ len = 0 ∧ cap = 0 ∧ ss = []) ∨
  ∃ x, a = some x ∧ len ≤ cap ∧ cap ≤ maxLen ∧ ss.length = cap ∧ (∀ i, i < ss.length → w.cell? (x.add i) = some (.string (ss.getD i ByteArray.empty))) ∧ ∀ s ∈ ss, s.size ≤ maxLen

/-- From the address a on (none: nothing is read) memory holds n strings, the j-th of which is f j; below the heap's end. -/
def RdS (w : World) (a : Option Addr) (n : Nat) (f : Nat → ByteArray) : Prop :=
  ∀ j, j < n → ∃ x, a = some x ∧ x.block < w.heap.size ∧ w.cell? (x.add j) = some (.string (f j)) ∧ (f j).size ≤ maxLen

theorem addS_block (x : Addr) (n : Nat) : (x.add n).block = x.block := by unfold Addr.add; split <;> rfl
theorem IsStrs.rd {w : World} {a : Option Addr} {len cap : Nat} {ss : List ByteArray} (h : IsStrs w a len cap ss) :
    len ≤ cap ∧ cap ≤ maxLen ∧ RdS w a len fun j => ss.getD j ByteArray.empty := by
  rcases h with ⟨rfl, rfl, rfl, rfl⟩ | ⟨x, rfl, h1, h2, h3, h4, h5⟩
  · exact ⟨Nat.le_refl _, Nat.zero_le _, fun j hj => absurd hj (by omega)⟩
  · refine ⟨h1, h2, fun j hj => ?_⟩
    have hc := h4 j (by omega)
    refine ⟨x, rfl, by have := World.block_lt_of_cell? w _ hc; rwa [addS_block] at this, hc, ?_⟩
    show (ss.getD j ByteArray.empty).size ≤ maxLen
    rw [List.getD_eq_getElem?_getD, List.getElem?_eq_getElem (by omega)]
    exact h5 _ (List.getElem_mem _)

end Go.Proofs.Ytjcpepjhnnpbpaa
