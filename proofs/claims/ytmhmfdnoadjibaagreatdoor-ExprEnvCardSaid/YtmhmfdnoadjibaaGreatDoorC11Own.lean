/- Slices of integers that a call has made: what they hold, and what is kept. No program. · Slices of integers that a call has made by append, nil let in; 'append' of one element, and 'string(b)' of bytes. No program. -/
import Derived.WalkKit
import Derived.OwnWalk
import Derived.Below
import Derived.ProofKit
import Derived.WalkSmall
import Derived.Laws.IdiomStrings
import Derived.Maps.AppendAt
set_option linter.unusedVariables false
set_option linter.unusedSimpArgs false
namespace Go.Proofs.YtmhmfdnoadjibaaGreatDoor
open Go.RowKit
def Row (E : TypeId) (k : IntKind) (B : Nat) (w : World) (g cap : Nat) (l : List Int) : Prop :=
 w.ownsRow B E 1 (.slice (some ⟨g, 0, none⟩) l.length cap) l.length (l.map (Value.int k))
def el (l : List Int) (j : Nat) : Int := l[j]?.getD 0
section
variable {E : TypeId} {k : IntKind} {B : Nat} {w w' : World} {g cap : Nat} {l : List Int}
theorem Row.cell (h : Row E k B w g cap l) {j : Nat} (hj : j < l.length) : w.cell? ⟨g, j, none⟩ = some (.int k (el l j)) := by
 rw [World.ownsRow.cellAt h j (by omega)]
 simp [hj, el]
theorem Row.frozen (h : Row E k B w g cap l) (j : Nat) : w.frozen? ⟨g, j, none⟩ = false := World.ownsRow.frozenAt h j
theorem Row.lt (h : Row E k B w g cap l) : B ≤ g ∧ g < w.heap.size := World.ownsRow.lt h g rfl
theorem Row.block (h : Row E k B w g cap l) (hb : w'.heap[g]? = w.heap[g]?) : Row E k B w' g cap l := by
 obtain ⟨h1, h2⟩ := h
 refine ⟨h1, ?_⟩
 rcases h2 with h2 | ⟨g', cap', cur, hv, hg, hh, r⟩
 ·exact Or.inl h2
 ·refine Or.inr ⟨g', cap', cur, hv, hg, ?_, r⟩
  simp only [Value.slice.injEq, Option.some.injEq, Addr.mk.injEq, and_true, true_and] at hv
  rw [← hv.1, hb, hv.1]
  exact hh
theorem Row.below {B' : Nat} (h : Row E k B w g cap l) (hb : Below B' w w') (hg : g < B') : Row E k B w' g cap l := h.block (hb.block g hg)
theorem Row.base {B' : Nat} (h : Row E k B w g cap l) (hb : B' ≤ B) : Row E k B' w g cap l := by
 obtain ⟨h1, h2⟩ := h
 refine ⟨h1, ?_⟩
 rcases h2 with h2 | ⟨g', cap', cur, hv, hg, r⟩
 ·exact Or.inl h2
 ·exact Or.inr ⟨g', cap', cur, hv, by omega, r⟩
end
end Go.Proofs.YtmhmfdnoadjibaaGreatDoor
namespace Go.Proofs.YtmhmfdnoadjibaaGreatDoor
open Go.RowKit
def Own (E : TypeId) (k : IntKind) (B : Nat) (w : World) (v : Value) (l : List Int) : Prop := w.ownsRow B E 1 v l.length (l.map (Value.int k))
theorem chain {B : Nat} {a b c : World} (h : Below B a b) (hB : B ≤ a.heap.size) (k : Below b.heap.size b c) : Below B a c := h.trans (k.mono (Nat.le_trans hB h.size))
section
variable {E : TypeId} {k : IntKind} {B : Nat} {w w' : World} {v : Value} {l : List Int}
theorem Own.nil (E : TypeId) (k : IntKind) (B : Nat) (w : World) : Own E k B w (.slice none 0 0) [] := World.ownsRow_nil w B E 1
theorem Own.lt (h : Own E k B w v l) : ∀ g, v.ownBlock = some g → B ≤ g ∧ g < w.heap.size := World.ownsRow.lt h
theorem Own.form (h : Own E k B w v l) : (v = .slice none 0 0 ∧ l = []) ∨ ∃ g cap, v = .slice (some ⟨g, 0, none⟩) l.length cap ∧ Row E k B w g cap l := by
 rcases id h.2 with ⟨h1, h2⟩ | ⟨g, cap, cur, hv, r⟩
 ·exact .inl ⟨h1, List.eq_nil_of_length_eq_zero h2⟩
 ·subst hv
  exact .inr ⟨g, cap, rfl, h⟩
theorem Own.block (h : Own E k B w v l) (hb : ∀ g, v.ownBlock = some g → w'.heap[g]? = w.heap[g]?) : Own E k B w' v l := by
 rcases h.form with ⟨rfl, rfl⟩ | ⟨g, cap, rfl, hr⟩
 ·exact Own.nil ..
 ·exact hr.block (hb g rfl)
theorem Own.below {B' : Nat} (h : Own E k B w v l) (hb : Below B' w w') (hg : w.heap.size ≤ B') : Own E k B w' v l :=
 h.block fun g hv => hb.block g (by have := (h.lt g hv).2; omega)
theorem Own.alloc (h : Own E k B w v l) (o : Obj) : Own E k B (w.alloc o) v l := World.ownsRow.alloc h o
theorem Own.base {B' : Nat} (h : Own E k B w v l) (hb : B' ≤ B) : Own E k B' w v l := by
 rcases h.form with ⟨rfl, rfl⟩ | ⟨g, cap, rfl, hr⟩
 ·exact Own.nil ..
 ·exact hr.base hb
theorem Own.of {n : Nat} {xs : List Value} (h : w.ownsRow B E 1 v n xs) (hn : n = l.length) (hx : xs = l.map (Value.int k)) : Own E k B w v l := by
 subst hn hx
 exact h
theorem Own.shape (h : Own E k B w v l) : ∃ a c, v = .slice a l.length c := by
 rcases h.form with ⟨rfl, rfl⟩ | ⟨g, cap, rfl, hr⟩
 ·exact ⟨_, _, rfl⟩
 ·exact ⟨_, _, rfl⟩
end
end Go.Proofs.YtmhmfdnoadjibaaGreatDoor
