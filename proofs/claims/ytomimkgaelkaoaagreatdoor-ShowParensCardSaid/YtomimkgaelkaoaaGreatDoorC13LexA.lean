/- Contracts of layer 6: what the walks ask of the world; the classes of bytes. -/
import Derived.Test.YtomimkgaelkaoaaGreatDoorC13LexP
import Derived.Test.YtomimkgaelkaoaaGreatDoorC13Shelf
import Derived.Test.YtomimkgaelkaoaaGreatDoorChecked
import Derived.WalkKit
import Derived.OwnWalk
import Derived.ProofKit
import Derived.WalkSmall
import Derived.Lib.Hide
set_option linter.unusedVariables false
set_option linter.unusedSimpArgs false
namespace Go.Proofs.YtomimkgaelkaoaaGreatDoor
open Go.ChangeShapes Go.WideShapes Go.ChangeAt Go.RowKit
def bs (l : List UInt8) : ByteArray := ⟨l.toArray⟩
theorem bs_list (l : List UInt8) : (bs l).data.toList = l := rfl
theorem bs_size (l : List UInt8) : (bs l).size = l.length := rfl
theorem bs_of (s : ByteArray) : bs s.data.toList = s := rfl
theorem size_list (s : ByteArray) : s.size = s.data.toList.length := rfl
def sgA : Array Value := (sgs.map fun g => Value.string (bs g)).toArray
theorem sgA_size : sgA.size = 29 := rfl
theorem sgA_at {j : Nat} (h : j < 29) : sgA[j]? = some (.string (bs (sgs.getD j []))) := by
 have hk : j < sgs.length := h
 unfold sgA
 rw [List.getElem?_toArray, List.getElem?_map, List.getD_eq_getElem?_getD, List.getElem?_eq_getElem hk]
 rfl
structure Env (w : World) : Prop where
 signs : ∃ t fr, w.heap[2]? = some (.cells sgA t fr)
 maxLen : ∃ m, w.cell? ⟨3, 0, none⟩ = some (.int .i64 m)
 range : ∃ ev, w.cell? ⟨8, 0, none⟩ = some ev ∧ (ev = .nilIface ∨ ∃ te pe, ev = .iface te pe)
theorem Env.below {w w' : World} (h : Env w) (hb : Below w.heap.size w w') : Env w' := by
 have k : ∀ (a : Addr) v, w.cell? a = some v → w'.cell? a = some v := fun a v e => (hb.cell (World.block_lt_of_cell? w a e)).trans e
 refine ⟨?_, ?_, ?_⟩
 ·obtain ⟨t, fr, e⟩ := h.signs
  exact ⟨t, fr, (hb.block _ (Array.getElem?_eq_some_iff.1 e).1).trans e⟩
 ·obtain ⟨m, hm⟩ := h.maxLen
  exact ⟨m, k _ _ hm⟩
 ·obtain ⟨ev, h1, h2⟩ := h.range
  exact ⟨ev, k _ _ h1, h2⟩
theorem Env.alloc {w : World} (h : Env w) (o : Obj) : Env (w.alloc o) := h.below ((Below.refl _ w).alloc (Nat.le_refl _) o)
theorem chain {B : Nat} {a b c : World} (h : Below B a b) (hB : B ≤ a.heap.size) (k : Below b.heap.size b c) : Below B a c := h.trans (k.mono (Nat.le_trans hB h.size))
theorem below_drewN (B : Nat) (w : World) : ∀ n, Below B w (w.drewN n)
 | 0 => Below.refl _ _
 | n + 1 => (below_drewN B w n).drew
theorem retB {x y : Bool} (h : x = true ↔ y = true) : Ending.returned (.bool x) = .returned (.bool y) := by rw [Bool.eq_iff_iff.2 h]
theorem retI {k : IntKind} {x y : Int} (h : x = y) : Ending.returned (.int k x) = .returned (.int k y) := by rw [h]
theorem isDigit_any (c : UInt8) (w : World) :
  Calls Tryz.prog 176 #[.int .u8 (c.toNat : Int)] w fun e w' => e = .returned (.bool (isD c)) ∧ w' = w := by
 go_enter Tryz.func176, Tryz.ntmps176
 go_wp2
 all_goals go_ret
 all_goals (refine ⟨retB ?_, rfl⟩; simp [isD]; try omega)
theorem isLetter_any (c : UInt8) (w : World) :
  Calls Tryz.prog 175 #[.int .u8 (c.toNat : Int)] w fun e w' => e = .returned (.bool (isL c)) ∧ w' = w := by
 go_enter Tryz.func175, Tryz.ntmps175
 go_wp2
 all_goals go_ret
 all_goals (refine ⟨retB ?_, rfl⟩; simp [isL]; try omega)
theorem bcell {W w1 : World} (hb : Below W.heap.size W w1) : (∀ b o, b < W.heap.size → w1.cell? ⟨b, o, none⟩ = W.cell? ⟨b, o, none⟩) ∧ (∀ b o, b < W.heap.size → w1.frozen? ⟨b, o, none⟩ = W.frozen? ⟨b, o, none⟩) :=
 ⟨fun b o h => hb.cell (p := ⟨b, o, none⟩) h, fun b o h => hb.frozen (p := ⟨b, o, none⟩) h⟩
theorem below_box (w : World) (o : Obj) : Below w.heap.size w (w.alloc o) := (Below.refl _ _).alloc (Nat.le_refl _) _
theorem set5 {B g : Nat} {w w' : World} (h : Below B w w') (hg : B ≤ g) (v0 v1 v2 v3 v4 : Value) :
  Below B w (((((w'.setCell ⟨g, 0, none⟩ v0).setCell ⟨g, 1, none⟩ v1).setCell ⟨g, 2, none⟩ v2).setCell ⟨g, 3, none⟩ v3).setCell ⟨g, 4, none⟩ v4) :=
 Below.setCell (Below.setCell (Below.setCell (Below.setCell (Below.setCell h hg _) hg _) hg _) hg _) hg _
end Go.Proofs.YtomimkgaelkaoaaGreatDoor
