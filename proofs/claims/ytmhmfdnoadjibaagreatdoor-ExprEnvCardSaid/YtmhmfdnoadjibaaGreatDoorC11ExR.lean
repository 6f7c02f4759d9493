/- Layer 10: slices of the law's structs, as they come in. -/
import Derived.Test.YtmhmfdnoadjibaaGreatDoorC11ExN
import Derived.Deep.SlicePairs
import Derived.ChangeSlices
set_option linter.unusedVariables false
set_option linter.unusedSimpArgs false
namespace Go.Proofs.YtmhmfdnoadjibaaGreatDoor
open Go.ChangeShapes Go.WideShapes Go.ChangeAt Go.RowKit
theorem w64_of {n : Int} (h : (Lit.int .u64 n).wf = true) : W64 n := by
 have : 0 ≤ n ∧ n ≤ 18446744073709551615 := by simpa [Lit.wf, IntKind.min, IntKind.max, IntKind.signed, IntKind.bits] using h
 unfold W64; omega
section
variable {H : Type} {enc : TypeId × Value → H} {w : World} {base : Nat} {spare : Nat → Bool} {held : Bool} {a : Option Addr} {len cap : Nat} {d : DataW H} {p : List MemPlace}
theorem open_vars (h : DataW.Trod enc Tryz.prog w base spare held 58 (.slice a len cap) d p) : ∃ l : EnvL, l.length = len ∧ ArgV w a cap l := by
 obtain ⟨fuel, hf⟩ := h
 rcases Go.Deep.open_slice_pairs Tryz.underlying58 Tryz.underlying163 (by kernel_rfl) rfl rfl (by kernel_rfl) (by kernel_rfl) hf with ⟨hcs, -⟩ | ⟨x, ln, c, m, n, V0, V1, D0, D1, P0, P1, hcs, hb, hl, hm, hmm, hx, hi⟩
 ·simp [Value.cells] at hcs
  obtain ⟨rfl, rfl, rfl⟩ := hcs
  exact ⟨[], rfl, by simp, by simp, fun i x hx => by simp at hx⟩
 ·simp [Value.cells] at hcs
  obtain ⟨rfl, rfl, rfl⟩ := hcs
  have hle : len ≤ m := by rw [hmm]; split <;> omega
  have each : ∀ i, i < len → ∃ q : List UInt8 × Int, W64 q.2 ∧ w.cell? (x.add (i * 2)) = some (.string ⟨q.1.toArray⟩) ∧ w.cell? (x.add (i * 2 + 1)) = some (.int .u64 q.2) := fun i hlt => by
   obtain ⟨c0, c1, t0, t1⟩ := hi i (by omega)
   obtain ⟨s, e0, -, -⟩ := DataW.trod_string Tryz.underlying9 t0
   obtain ⟨z, e1, -, hz⟩ := DataW.trod_int Tryz.underlying37 t1
   simp at e0 e1
   rw [e0] at c0
   rw [e1] at c1
   exact ⟨(s.data.toList, z), w64_of hz, c0, c1⟩
  obtain ⟨f, hf'⟩ := Go.Deep.choose_lt each
  refine ⟨(List.range len).map f, by simp, by simpa using hl, hm, fun i y hy => ?_⟩
  have hlt : i < len := by have := (List.getElem?_eq_some_iff.1 hy).1; simpa using this
  obtain rfl : f i = y := by simpa [List.getElem?_map, List.getElem?_range hlt] using hy
  obtain ⟨q0, q1, q2⟩ := hf' i hlt
  have hbl := World.block_lt_of_cell? w _ q1
  rw [addr_block] at hbl
  exact ⟨q0, x, rfl, hbl, q1, q2⟩
end
end Go.Proofs.YtmhmfdnoadjibaaGreatDoor
