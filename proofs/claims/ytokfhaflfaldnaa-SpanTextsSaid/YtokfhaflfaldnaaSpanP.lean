/- Plain mathematics of layer 5: spans. No program. -/
import Derived.WalkKit
namespace Go.Proofs.Ytokfhaflfaldnaa
set_option linter.unusedVariables false

/-- The span at a with l bytes is valid for n bytes. -/
def Gd (a l n : Int) : Prop := 0 ≤ a ∧ 0 ≤ l ∧ a + l ≤ n
def gdB (a l n : Int) : Bool := decide (0 ≤ a ∧ 0 ≤ l ∧ a + l ≤ n)
theorem gd_yes {a l n : Int} (h : Gd a l n) : gdB a l n = true := by exact decide_eq_true (p := 0 ≤ a ∧ 0 ≤ l ∧ a + l ≤ n) h
theorem gd_no {a l n : Int} (h : ¬ Gd a l n) : gdB a l n = false := by exact decide_eq_false (p := 0 ≤ a ∧ 0 ≤ l ∧ a + l ≤ n) h
theorem gd_of {a l n : Int} (h : gdB a l n = true) : Gd a l n := of_decide_eq_true (p := 0 ≤ a ∧ 0 ≤ l ∧ a + l ≤ n) h
theorem gd_not {a l n : Int} (h : gdB a l n = false) : ¬ Gd a l n := of_decide_eq_false (p := 0 ≤ a ∧ 0 ≤ l ∧ a + l ≤ n) h
/-- A 64-bit integer. -/
def I64 (x : Int) : Prop := -9223372036854775808 ≤ x ∧ x ≤ 9223372036854775807
/-- Where a span ends. -/
def endI (a l : Int) : Int := if gdB a l 4611686018427387904 = true then a + l else 0
theorem end_yes {a l : Int} (h : Gd a l 4611686018427387904) : endI a l = a + l := by unfold endI; rw [if_pos (gd_yes h)]
theorem end_no {a l : Int} (h : ¬ Gd a l 4611686018427387904) : endI a l = 0 := by unfold endI; rw [if_neg (by rw [gd_no h]; decide)]
/-- The one lies within the other. -/
def hasB (a l a' l' : Int) : Bool := gdB a l 4611686018427387904 && gdB a' l' 4611686018427387904 && decide (a ≤ a') && decide (a' + l' ≤ a + l)

end Go.Proofs.Ytokfhaflfaldnaa
