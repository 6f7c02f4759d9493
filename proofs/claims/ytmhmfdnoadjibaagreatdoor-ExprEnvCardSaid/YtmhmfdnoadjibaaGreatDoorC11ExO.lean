/- Layer 10: the walk of the law ExprOnly. -/
import Derived.Test.YtmhmfdnoadjibaaGreatDoorC11ExN
import Derived.Test.YtmhmfdnoadjibaaGreatDoorC11ExW
import Derived.Test.YtmhmfdnoadjibaaGreatDoorC11ExR
set_option linter.unusedVariables false
set_option linter.unusedSimpArgs false
namespace Go.Proofs.YtmhmfdnoadjibaaGreatDoor
open Go.ChangeShapes Go.WideShapes Go.ChangeAt Go.RowKit
theorem getE_app (a b : EnvL) (s : List UInt8) : getE (a ++ b) s = (getE b s).or (getE a s) := by
 unfold getE
 rw [List.reverse_append, List.find?_append]
 cases List.find? (fun x => decide (x.1 = s)) b.reverse <;> simp
theorem getE_off {e : EnvL} {s : List UInt8} (h : ∀ u ∈ e, u.1 ≠ s) : getE e s = none := by
 unfold getE
 rw [List.find?_eq_none.2 fun u hu => by simpa using h u (by simpa using hu)]; rfl
theorem EnvAt.at {n : Nat} {w : World} {a : Option Addr} {m c : Nat} {e : EnvL} (h : EnvAt n w (.slice a m c) e) {i : Nat} {x : List UInt8 × Int} (hx : e[i]? = some x) : ∃ k, a = some ⟨k, 0, none⟩ ∧ k < n ∧ w.cell? ⟨k, i * 2, none⟩ = some (.string ⟨x.1.toArray⟩) ∧ w.cell? ⟨k, i * 2 + 1, none⟩ = some (.int .u64 x.2) := by
 obtain ⟨a', c', h1, _, h3⟩ := h
 simp only [Value.slice.injEq] at h1
 obtain ⟨rfl, rfl, rfl⟩ := h1
 exact h3 i x hx
end Go.Proofs.YtmhmfdnoadjibaaGreatDoor
