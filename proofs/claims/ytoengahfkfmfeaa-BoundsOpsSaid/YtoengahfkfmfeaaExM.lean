/- Layer 10: the two maps of Eval: places seen, and what places come to. -/
import Derived.Maps.OwnSet
import Derived.WalkKit
import Derived.OwnWalk
import Derived.WalkSmall
import Derived.Test.YtoengahfkfmfeaaChecked
set_option linter.unusedVariables false
set_option linter.unusedSimpArgs false
namespace Go.Proofs.Ytoengahfkfmfeaa
open Go.RowKit Go.ChangeShapes Go.WideShapes

theorem keyI {k : Int} (h : -9223372036854775808 ≤ k ∧ k ≤ 9223372036854775807) : keyOf Try.prog 3 (.int .i64 k) = some (.int .i64 k) :=
  Maps.keyOf_int_mk Try.underlying3 (by simp [Lit.wf, IntKind.min, IntKind.max, IntKind.signed, IntKind.bits]; omega)
theorem keyedI : Maps.Keyed Try.prog 3 := Maps.int_keyed Try.underlying3
theorem isKeyI (k : Int) : WideAt.IsKeyLit (Lit.int .i64 k) := by simp [WideAt.IsKeyLit]
theorem litI_ne {j k : Int} (h : j ≠ k) : Lit.int .i64 j ≠ Lit.int .i64 k := fun e => h (by cases e; rfl)
/-- Block b is a set of places: those of S. -/
def SetM (w : World) (b n : Nat) (S : Int → Bool) : Prop :=
  ∃ D : DataW Unit, w.ownsMap Try.prog 3 unitElem b n D ∧ ∀ k, Maps.has D (.int .i64 k) = S k
theorem SetM.lt {w : World} {b n : Nat} {S : Int → Bool} (h : SetM w b n S) : b < w.heap.size := by obtain ⟨D, h1, _⟩ := h; exact h1.lt
theorem SetM.kept {w w' : World} {row : Option Nat} {b n : Nat} {S : Int → Bool} (h : SetM w b n S) (hg : w.grownBy w' row) (hne : some b ≠ row) : SetM w' b n S := by
  obtain ⟨D, h1, h2⟩ := h; exact ⟨D, h1.kept hg hne, h2⟩
theorem SetM.below {w w' : World} {B b n : Nat} {S : Int → Bool} (h : SetM w b n S) (hb : Below B w w') (hB : b < B) : SetM w' b n S := by
  obtain ⟨D, ⟨es, clock, q1, q2⟩, h2⟩ := h
  exact ⟨D, ⟨es, clock, (hb.block b hB).trans q1, q2⟩, h2⟩
theorem SetM.made (w : World) : SetM (w.alloc (.map #[] 0)) w.heap.size 0 (fun _ => false) :=
  ⟨_, World.ownsMap_made w _ _ _, fun k => by simp [Maps.has]⟩
theorem SetM.look {w : World} {b n : Nat} {S : Int → Bool} (h : SetM w b n S) {k : Int} (hk : -9223372036854775808 ≤ k ∧ k ≤ 9223372036854775807) :
    (Instr.lookup 105 (.map (some b)) (.int .i64 k) true).run Try.prog w = .ok (.tuple #[.agg #[], .bool (S k)]) w := by
  obtain ⟨D, h1, h2⟩ := h
  obtain ⟨v, ps, q1, q2⟩ := h1.look_ok keyedI Try.underlying105 (Try.zeroValue107 w) unitElem_mk (keyI hk)
  obtain ⟨rfl, _⟩ := unitElem_inv q2
  rw [q1, h2]
theorem SetM.put {w : World} {b n : Nat} {S : Int → Bool} (h : SetM w b n S) (hn : n < maxLen) {k : Int} (hk : -9223372036854775808 ≤ k ∧ k ≤ 9223372036854775807) :
    ∃ w', (Instr.mapUpdate 105 (.map (some b)) (.int .i64 k) (.agg #[])).run Try.prog w = .ok () w' ∧ SetM w' b (n + 1) (fun j => S j || decide (j = k)) ∧ w.grownBy w' (some b) := by
  obtain ⟨D, h1, h2⟩ := h
  obtain ⟨w', q1, q2, q3⟩ := h1.update keyedI Try.underlying105 hn (keyI hk) unitElem_mk
  refine ⟨w', q1, ⟨_, q2, fun j => ?_⟩, q3⟩
  by_cases e : j = k
  · subst e; rw [Maps.has_put_same h1.isMap (isKeyI j)]; simp
  · rw [Maps.has_put_other (litI_ne e), h2]; simp [e]
/-- What a place comes to, as a map's element. -/
def outElem (v : Value) : Option (DataW Unit × List MemPlace) :=
  match v with
  | .agg cs => (match cs.toList with
    | [.int .u64 n, .int .i64 e] => some (.agg [.lit (.int .u64 n), .lit (.int .i64 e)], [])
    | _ => none)
  | _ => none
def outD (x : Int × Int) : DataW Unit := .agg [.lit (.int .u64 x.1), .lit (.int .i64 x.2)]
def outV (x : Int × Int) : Value := .agg #[.int .u64 x.1, .int .i64 x.2]
theorem outElem_mk (x : Int × Int) : outElem (outV x) = some (outD x, []) := rfl
theorem outElem_inv {v : Value} {x : Int × Int} {ps : List MemPlace} (h : outElem v = some (outD x, ps)) : v = outV x := by
  unfold outElem at h
  split at h
  · rename_i cs
    split at h
    · rename_i n e hc
      have : cs = #[.int .u64 n, .int .i64 e] := by
        have := congrArg List.toArray hc
        simpa using this
      subst this
      simp [outD] at h
      obtain ⟨⟨rfl, rfl⟩, _⟩ := h
      rfl
    · cases h
  · cases h
/-- Block b says what places come to: G, 0 and no error where it says nothing. -/
def ValM (w : World) (b n : Nat) (G : Int → Int × Int) : Prop :=
  ∃ D : DataW Unit, w.ownsMap Try.prog 3 outElem b n D ∧ ∀ k, D.atKey (.int .i64 k) (outD (0, 0)) = outD (G k)
theorem ValM.lt {w : World} {b n : Nat} {S : Int → Int × Int} (h : ValM w b n S) : b < w.heap.size := by obtain ⟨D, h1, _⟩ := h; exact h1.lt
theorem ValM.kept {w w' : World} {row : Option Nat} {b n : Nat} {S : Int → Int × Int} (h : ValM w b n S) (hg : w.grownBy w' row) (hne : some b ≠ row) : ValM w' b n S := by
  obtain ⟨D, h1, h2⟩ := h; exact ⟨D, h1.kept hg hne, h2⟩
theorem ValM.below {w w' : World} {B b n : Nat} {S : Int → Int × Int} (h : ValM w b n S) (hb : Below B w w') (hB : b < B) : ValM w' b n S := by
  obtain ⟨D, ⟨es, clock, q1, q2⟩, h2⟩ := h
  exact ⟨D, ⟨es, clock, (hb.block b hB).trans q1, q2⟩, h2⟩
theorem ValM.made (w : World) : ValM (w.alloc (.map #[] 0)) w.heap.size 0 (fun _ => (0, 0)) :=
  ⟨_, World.ownsMap_made w _ _ _, fun k => by simp [DataW.atKey]⟩
theorem ValM.look {w : World} {b n : Nat} {S : Int → Int × Int} (h : ValM w b n S) {k : Int} (hk : -9223372036854775808 ≤ k ∧ k ≤ 9223372036854775807) :
    (Instr.lookup 93 (.map (some b)) (.int .i64 k) false).run Try.prog w = .ok (.agg #[.int .u64 (S k).1, .int .i64 (S k).2]) w := by
  obtain ⟨D, h1, h2⟩ := h
  obtain ⟨v, ps, q1, q2⟩ := h1.lookup keyedI Try.underlying93 (Try.zeroValue95 w) (outElem_mk (0, 0)) (keyI hk)
  rw [h2] at q2
  rw [q1, outElem_inv q2]
  rfl
theorem ValM.put {w : World} {b n : Nat} {S : Int → Int × Int} (h : ValM w b n S) (hn : n < maxLen) {k : Int} (hk : -9223372036854775808 ≤ k ∧ k ≤ 9223372036854775807) (x : Int × Int) :
    ∃ w', (Instr.mapUpdate 93 (.map (some b)) (.int .i64 k) (.agg #[.int .u64 x.1, .int .i64 x.2])).run Try.prog w = .ok () w' ∧ ValM w' b (n + 1) (fun j => if j = k then x else S j) ∧ w.grownBy w' (some b) := by
  obtain ⟨D, h1, h2⟩ := h
  obtain ⟨w', q1, q2, q3⟩ := h1.update keyedI Try.underlying93 hn (keyI hk) (outElem_mk x)
  refine ⟨w', q1, ⟨_, q2, fun j => ?_⟩, q3⟩
  by_cases e : j = k
  · subst e; rw [Maps.atKey_put_same h1.isMap (isKeyI j)]; simp
  · rw [Maps.atKey_put_other (litI_ne e), h2]; simp [e]
end Go.Proofs.Ytoengahfkfmfeaa
