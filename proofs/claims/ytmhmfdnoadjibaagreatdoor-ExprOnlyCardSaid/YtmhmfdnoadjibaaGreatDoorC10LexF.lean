/- Contracts of layer 6: signs and tokens, by the document. · Contracts of layer 6: the first token, by the document. · Contracts of layer 6: the document's Lex. -/
import Derived.Test.YtmhmfdnoadjibaaGreatDoorC10LexC
import Derived.Deep.CutBlock
import Derived.Test.YtmhmfdnoadjibaaGreatDoorC10Toks
import Derived.Below
set_option linter.unusedVariables false
set_option linter.unusedSimpArgs false
namespace Go.Proofs.YtmhmfdnoadjibaaGreatDoor
open Go.ChangeShapes Go.WideShapes Go.ChangeAt Go.RowKit
end Go.Proofs.YtmhmfdnoadjibaaGreatDoor
namespace Go.Proofs.YtmhmfdnoadjibaaGreatDoor
open Go.ChangeShapes Go.WideShapes Go.ChangeAt Go.RowKit
end Go.Proofs.YtmhmfdnoadjibaaGreatDoor
namespace Go.Proofs.YtmhmfdnoadjibaaGreatDoor
open Go.ChangeShapes Go.WideShapes Go.ChangeAt Go.RowKit
def LR.toks : LR → List Tok
 | .ok l => l
 | .bad _ _ => []
def LR.pos : LR → Ps
 | .ok _ => (0, 0)
 | .bad p _ => p
def LR.err : LR → Nat
 | .ok _ => 0
 | .bad _ e => e
theorem lexInfo_parts {P : Program} {t : TypeId} {z : Option Value} {n m : Nat} (h : (P.info? t).map (fun i => (i.zero, i.size, i.bytes)) = some (z, n, m)) : ∃ i, P.info? t = some i ∧ i.zero = z ∧ i.size = n ∧ i.bytes = m := by
 obtain ⟨i, h1, h2⟩ := Option.map_eq_some_iff.1 h
 simp only [Prod.mk.injEq] at h2
 exact ⟨i, h1, h2.1, h2.2.1, h2.2.2⟩
theorem res2_alloc {w w' : World} {v0 v1 : Value} (h0 : w'.cell? ⟨w.heap.size, 0, none⟩ = some v0) (h1 : w'.cell? ⟨w.heap.size, 1, none⟩ = some v1) (hz : w.heap.size < w'.heap.size) (T : Obj) (u0 : Value) :
  (w'.alloc T).cell? ⟨w.heap.size, 0, none⟩ = some v0 ∧ ((w'.setCell ⟨w.heap.size, 0, none⟩ u0).alloc T).cell? ⟨w.heap.size, 1, none⟩ = some v1 := by
 refine ⟨(World.cell?_alloc_lt _ _ _ hz).trans h0, (World.cell?_alloc_lt _ _ _ (by simpa using hz)).trans ?_⟩
 exact (World.cell?_setCell_other _ _ _ _ (by simp)).trans h1
theorem res2_set {w w' : World} {v0 v1 : Value} (h0 : w'.cell? ⟨w.heap.size, 0, none⟩ = some v0) (h1 : w'.cell? ⟨w.heap.size, 1, none⟩ = some v1) (hz : w.heap.size < w'.heap.size) (T : Obj) (u0 u1 : Value) :
  (((w'.setCell ⟨w.heap.size, 0, none⟩ u0).setCell ⟨w.heap.size, 1, none⟩ u1).alloc T).cell? ⟨w.heap.size, 0, none⟩ = some u0 ∧ (((w'.setCell ⟨w.heap.size, 0, none⟩ u0).setCell ⟨w.heap.size, 1, none⟩ u1).alloc T).cell? ⟨w.heap.size, 1, none⟩ = some u1 := by
 have hz' : w.heap.size < ((w'.setCell ⟨w.heap.size, 0, none⟩ u0).setCell ⟨w.heap.size, 1, none⟩ u1).heap.size := by simpa using hz
 refine ⟨(World.cell?_alloc_lt _ _ _ hz').trans ?_, (World.cell?_alloc_lt _ _ _ hz').trans ?_⟩
 ·exact (World.cell?_setCell_other _ _ _ _ (by simp)).trans (World.cell?_setCell_same _ _ _ h0)
 ·exact World.cell?_setCell_same _ _ _ ((World.cell?_setCell_other _ _ _ _ (by simp)).trans h1)
end Go.Proofs.YtmhmfdnoadjibaaGreatDoor
