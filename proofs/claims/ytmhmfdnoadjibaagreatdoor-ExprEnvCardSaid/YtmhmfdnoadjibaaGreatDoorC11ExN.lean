/- Layer 10: the law's files. -/
import Derived.Test.YtmhmfdnoadjibaaGreatDoorC11ExL
set_option linter.unusedVariables false
set_option linter.unusedSimpArgs false
namespace Go.Proofs.YtmhmfdnoadjibaaGreatDoor
open Go.ChangeShapes Go.WideShapes Go.ChangeAt Go.RowKit
def ExRow (B : Nat) (w0 w : World) (v : Value) (xs : List XE) : Prop :=
 ∃ css : List (List Value), w.ownsRow B 40 5 v xs.length css.flatten ∧ css.length = xs.length ∧ (∀ c ∈ css, c.length = 5) ∧ ∀ (j : Nat) c x, css[j]? = some c → xs[j]? = some x → ∃ kv, c = [.int .i64 x.k, .string (bs x.op), .int .u64 x.n, .string (bs x.s), kv] ∧ KidR w0 kv x.kids
theorem ExRow.at {B : Nat} {w0 w : World} {v : Value} {xs : List XE} (h : ExRow B w0 w v xs) (hb : Below w0.heap.size w0 w) (hl : xs.length < 1000000000000) : ExsAt w v xs := by
 obtain ⟨css, h1, h2, h3, h4⟩ := h
 have h' := h1
 rcases id h1.2 with ⟨rfl, h0⟩ | ⟨g, cap, cur, rfl, _⟩
 ·have : xs = [] := List.eq_nil_of_length_eq_zero h0
  subst this
  exact ⟨none, 0, rfl, hl, fun i x hx => by simp at hx⟩
 ·refine ⟨_, _, rfl, hl, fun i x hx => ?_⟩
  have hi := (List.getElem?_eq_some_iff.1 hx).1
  have hc : css[i]? = some (css[i]'(by omega)) := List.getElem?_eq_getElem (by omega)
  obtain ⟨kv, e, hk⟩ := h4 i _ x hc hx
  have cell : ∀ j, j < 5 → w.cell? ⟨g, i * 5 + j, none⟩ = (css[i]'(by omega))[j]? := fun j hj => by
   rw [World.ownsRow.cellAt h' _ (by omega), flat_at 5 css h3 i j hj, hc]; rfl
  refine ⟨g, kv, rfl, (World.ownsRow.lt h' g rfl).2, ?_, ?_, ?_, ?_, ?_, hk.below hb⟩
  ·have := cell 0 (by decide); rw [e] at this; exact this
  ·have := cell 1 (by decide); rw [e] at this; exact this
  ·have := cell 2 (by decide); rw [e] at this; exact this
  ·have := cell 3 (by decide); rw [e] at this; exact this
  ·have := cell 4 (by decide); rw [e] at this; exact this
def FiveS (b : Nat) (c0 c1 c2 c3 c4 : Value) (w : World) : Prop := w.cell? ⟨b, 0, none⟩ = some c0 ∧ w.cell? ⟨b, 1, none⟩ = some c1 ∧ w.cell? ⟨b, 2, none⟩ = some c2 ∧ w.cell? ⟨b, 3, none⟩ = some c3 ∧ w.cell? ⟨b, 4, none⟩ = some c4
section
variable {b : Nat} {c0 c1 c2 c3 c4 : Value} {w w' : World}
theorem FiveS.lt (h : FiveS b c0 c1 c2 c3 c4 w) : b < w.heap.size := World.block_lt_of_cell? w _ h.1
end
end Go.Proofs.YtmhmfdnoadjibaaGreatDoor
