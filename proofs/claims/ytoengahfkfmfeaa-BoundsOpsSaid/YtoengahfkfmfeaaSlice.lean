/- Slices of integers that a call has made: what they hold, and what is kept. No program. -/
import Derived.WalkKit
import Derived.OwnWalk
import Derived.Below
import Derived.ProofKit
import Derived.WalkSmall
set_option linter.unusedVariables false
set_option linter.unusedSimpArgs false
namespace Go.Proofs.Ytoengahfkfmfeaa
open Go.RowKit

/-- The slice at the head of block g, with capacity cap, holds the integers l; the block lies from B on and can be written. -/
def Row (E : TypeId) (k : IntKind) (B : Nat) (w : World) (g cap : Nat) (l : List Int) : Prop :=
  w.ownsRow B E 1 (.slice (some ⟨g, 0, none⟩) l.length cap) l.length (l.map (Value.int k))

/-- The element at place j (0 beyond the end), under a name that the walk does not open. -/
def el (l : List Int) (j : Nat) : Int := l[j]?.getD 0
theorem el_of (l : List Int) (j : Nat) : l[j]?.getD 0 = el l j := rfl
theorem el_past {l : List Int} {j : Nat} (h : l.length ≤ j) : el l j = 0 := by unfold el; rw [List.getElem?_eq_none h]; rfl

section
variable {E : TypeId} {k : IntKind} {B : Nat} {w w' : World} {g cap : Nat} {l : List Int}

theorem Row.cell (h : Row E k B w g cap l) {j : Nat} (hj : j < l.length) : w.cell? ⟨g, j, none⟩ = some (.int k (el l j)) := by
  rw [World.ownsRow.cellAt h j (by omega)]
  simp [hj, el]
theorem Row.frozen (h : Row E k B w g cap l) (j : Nat) : w.frozen? ⟨g, j, none⟩ = false := World.ownsRow.frozenAt h j
theorem Row.set (h : Row E k B w g cap l) (j : Nat) (x : Int) : Row E k B (w.setCell ⟨g, j, none⟩ (.int k x)) g cap (l.set j x) := by
  have := (World.ownsRow.stored h j (.int k x)).1
  unfold Row
  rw [List.length_set, List.map_set]
  exact this
theorem Row.lt (h : Row E k B w g cap l) : B ≤ g ∧ g < w.heap.size := World.ownsRow.lt h g rfl
theorem Row.block (h : Row E k B w g cap l) (hb : w'.heap[g]? = w.heap[g]?) : Row E k B w' g cap l := by
  obtain ⟨h1, h2⟩ := h
  refine ⟨h1, ?_⟩
  rcases h2 with h2 | ⟨g', cap', cur, hv, hg, hh, r⟩
  · exact Or.inl h2
  · refine Or.inr ⟨g', cap', cur, hv, hg, ?_, r⟩
    simp only [Value.slice.injEq, Option.some.injEq, Addr.mk.injEq, and_true, true_and] at hv
    rw [← hv.1, hb, hv.1]
    exact hh
theorem Row.below {B' : Nat} (h : Row E k B w g cap l) (hb : Below B' w w') (hg : g < B') : Row E k B w' g cap l := h.block (hb.block g hg)
theorem Row.setOther (h : Row E k B w g cap l) {a : Addr} (ha : g ≠ a.block) (u : Value) : Row E k B (w.setCell a u) g cap l :=
  h.block (Below.heap_setCell _ _ _ _ ha)
theorem Row.alloc (h : Row E k B w g cap l) (o : Obj) : Row E k B (w.alloc o) g cap l := h.block (Below.heap_alloc _ _ _ h.lt.2)
theorem Row.drew (h : Row E k B w g cap l) : Row E k B w.drew g cap l := h.block rfl
theorem Row.drewN (h : Row E k B w g cap l) (n : Nat) : Row E k B (w.drewN n) g cap l := h.block rfl
theorem Row.base {B' : Nat} (h : Row E k B w g cap l) (hb : B' ≤ B) : Row E k B' w g cap l := by
  obtain ⟨h1, h2⟩ := h
  refine ⟨h1, ?_⟩
  rcases h2 with h2 | ⟨g', cap', cur, hv, hg, r⟩
  · exact Or.inl h2
  · exact Or.inr ⟨g', cap', cur, hv, by omega, r⟩
theorem Row.len (h : Row E k B w g cap l) : l.length ≤ maxLen := by
  rcases h.2 with ⟨h', _⟩ | ⟨g', cap', cur, hv, hg, hh, h1, h2, _⟩
  · simp at h'
  · omega
/-- What an append hands back: a Row again, of the longer list, at some block. -/
theorem Row.of_append {v : Value} {n : Nat} {xs : List Value} (h : w.ownsRow B E 1 v n xs) (hn : n = l.length) (h0 : 0 < n) (hx : xs = l.map (Value.int k)) :
    ∃ g cap, v = .slice (some ⟨g, 0, none⟩) l.length cap ∧ Row E k B w g cap l := by
  subst hn hx
  rcases h.2 with ⟨_, h2⟩ | ⟨g, cap, cur, hv, r⟩
  · omega
  · subst hv
    exact ⟨g, cap, rfl, h⟩
theorem Row.grown {row : Option Nat} (h : Row E k B w g cap l) (hg : w.grownBy w' row) (hne : row ≠ some g) : Row E k B w' g cap l := h.block (hg.block g h.lt.2 (fun e => hne e.symm))
/-- What a law of 'append' or 'make' hands back, read as a Row. -/
theorem Row.of_own {n : Nat} {xs : List Value} (h : w.ownsRow B E 1 (.slice (some ⟨g, 0, none⟩) n cap) n xs) (hn : n = l.length) (hx : xs = l.map (Value.int k)) : Row E k B w g cap l := by
  subst hn hx
  exact h
theorem Row.own (h : Row E k B w g cap l) : w.ownsRow B E 1 (.slice (some ⟨g, 0, none⟩) l.length cap) l.length (l.map (Value.int k)) := h
end

end Go.Proofs.Ytoengahfkfmfeaa
