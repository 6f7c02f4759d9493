/- Layer 6: both lexers at once; blocks of two integers. -/
import Derived.Test.YtcdbdfhikbfbpaaGreatDoorLexM
import Derived.Test.YtcdbdfhikbfbpaaGreatDoorLexQ
namespace Go.Proofs.YtcdbdfhikbfbpaaGreatDoor
open Go.ChangeShapes Go.WideShapes Go.ChangeAt Go.RowKit
set_option linter.unusedVariables false

/-- Block g holds two integers. -/
def Two (T : TypeId) (g : Nat) (x y : Int) (w : World) : Prop := w.heap[g]? = some (.cells #[.int .i64 x, .int .i64 y] T (0, 0))
section
variable {T : TypeId} {g : Nat} {x y : Int} {w w' : World}
theorem Two.lt (h : Two T g x y w) : g < w.heap.size := (Array.getElem?_eq_some_iff.1 h).1
theorem Two.cells (h : Two T g x y w) : w.cell? ⟨g, 0, none⟩ = some (.int .i64 x) ∧ w.cell? ⟨g, 1, none⟩ = some (.int .i64 y) ∧ g < w.heap.size :=
  ⟨by rw [cell_of_row _ _ _ _ _ (0, 0) h]; rfl, by rw [cell_of_row _ _ _ _ _ (0, 0) h]; rfl, h.lt⟩
theorem Two.keep (h : Two T g x y w) (hb : Below w.heap.size w w') : Two T g x y w' := (hb.block g h.lt).trans h
theorem Two.new (w : World) (x y : Int) (T : TypeId) : Two T w.heap.size x y (w.alloc (.cells #[.int .i64 x, .int .i64 y] T)) := heap_alloc_new w _
end

theorem toks_all (s : List UInt8) : (lexL s).toks.length ≤ 16385 ∧ sumL (lexL s).toks ≤ 16384 ∧ ∀ t ∈ (lexL s).toks, t.tk.k ≠ 3 → t.tk.t ≠ [] := by
  cases h : lexL s with
  | ok l => exact lexL_all h
  | bad p e => exact ⟨by simp [LR.toks], by simp [LR.toks, sumL], by simp [LR.toks]⟩
/-- Both lexers at once. -/
theorem lex_pair (s : ByteArray) : ∃ (p q f : Nat) (l : List Tok), (∀ w, Env w → Calls Tryz.prog 23 #[.string s] w fun e w' => ∃ a c, e = .returned (.tuple #[.slice a l.length c, .agg #[.int .i64 p, .int .i64 q], .int .i64 f]) ∧ TkS w' a l ∧ Below w.heap.size w w') ∧
    (∀ w, Calls Tryz.prog 27 #[.string s] w fun e w' => ∃ a c, e = .returned (.tuple #[.slice a l.length c, .agg #[.int .i64 p, .int .i64 q], .int .i64 f]) ∧ TkS w' a l ∧ Below w.heap.size w w') ∧
    l = (lexL s.data.toList).toks ∧ f = (lexL s.data.toList).err ∧ l.length ≤ 16385 ∧ sumL l ≤ 16384 ∧ ∀ t ∈ l, t.tk.k ≠ 3 → t.tk.t ≠ [] := by
  have hA := toks_all s.data.toList
  refine ⟨(lexL s.data.toList).pos.1, (lexL s.data.toList).pos.2, (lexL s.data.toList).err, (lexL s.data.toList).toks, fun w hE => (Lex_any s w hE).mono ?_, fun w => (refLex_any s w).mono ?_, rfl, rfl, hA⟩
  all_goals
    rintro e w' ⟨v, rfl, hT, hb⟩
    obtain ⟨a, c, rfl⟩ := hT.shape
    exact ⟨a, c, rfl, hT.rd, hb⟩

end Go.Proofs.YtcdbdfhikbfbpaaGreatDoor
