/- An array of three integers that came in by value, opened. No program. -/
import Derived.OpenShut
import Derived.Laws.IdiomArrays
import Derived.RowKit
namespace Go.Proofs.Ytkalflhepnbppaa
open Go.ChangeShapes
set_option linter.unusedVariables false

theorem open_arr3 {H : Type} {enc : TypeId × Value → H} {P : Program} {w : World} {base : Nat} {spare : Nat → Bool} {held : Bool} {t e : TypeId} {q : IntKind} {cs : Array Value} {d : DataW H} {p : List MemPlace}
    (ht : P.underlying t = some (.array 3 e)) (he : P.underlying e = some (.int q)) (hce : P.cellsOf e = 1) (hsz : cs.size = 3) (h : DataW.Trod enc P w base spare held t (.agg cs) d p) :
    ∃ x y z : Int, cs = #[.int q x, .int q y, .int q z] ∧ (Lit.int q x).wf = true ∧ (Lit.int q y).wf = true ∧ (Lit.int q z).wf = true := by
  obtain ⟨l⟩ := cs
  match l, hsz with
  | [c0, c1, c2], _ =>
    obtain ⟨fuel, hf⟩ := h
    obtain ⟨y0, y1, y2, m, _, hy0, hy1, hy2⟩ := trod_array3 ht hce hf
    obtain ⟨x0, e0, _, w0⟩ := DataW.trod_int he hy0
    obtain ⟨x1, e1, _, w1⟩ := DataW.trod_int he hy1
    obtain ⟨x2, e2, _, w2⟩ := DataW.trod_int he hy2
    simp at e0 e1 e2
    subst e0 e1 e2
    exact ⟨x0, x1, x2, rfl, w0, w1, w2⟩

end Go.Proofs.Ytkalflhepnbppaa
