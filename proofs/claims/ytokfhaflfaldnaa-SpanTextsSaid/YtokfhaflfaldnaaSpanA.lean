/- Contracts of layer 5: which spans are valid, where they end, and which lies within which; by package span and by the document. -/
import Derived.Test.YtokfhaflfaldnaaRows
import Derived.Test.YtokfhaflfaldnaaSpanP
import Derived.Test.YtokfhaflfaldnaaOwn
import Derived.WalkKit
import Derived.ProofKit
import Derived.OpenShut
import Derived.WalkLawsBesides
import Derived.WalkSpells
import Derived.Lib.Hide
import Derived.Outline
import Derived.StillTailTactics
import Derived.Handy
import Derived.Deep.QuietTactic
import Derived.BigQuiet
import Derived.Deep.RegionHeld3
namespace Go.Proofs.Ytokfhaflfaldnaa
open Go.ChangeShapes Go.WideShapes Go.ChangeAt Go.RowKit
set_option linter.unusedVariables false

theorem retB {x y : Bool} (h : x = y) : Ending.returned (.bool x) = .returned (.bool y) := by rw [h]
theorem retI {x y : Int} (h : x = y) : Ending.returned (.int .i64 x) = .returned (.int .i64 y) := by rw [h]

/-- The cells of a span that lies in a block of its own. -/
theorem box_cells {w w3 : World} {v0 v1 : Value} {t : TypeId} (h : Below (w.alloc (.cells #[v0, v1] t)).heap.size (w.alloc (.cells #[v0, v1] t)) w3) :
    w3.cell? ⟨w.heap.size, 0, none⟩ = some v0 ∧ w3.cell? ⟨w.heap.size, 1, none⟩ = some v1 ∧ w.heap.size < w3.heap.size := by
  have hs := h.size
  simp at hs
  refine ⟨(h.cell (by simp)).trans ?_, (h.cell (by simp)).trans ?_, by omega⟩
  all_goals
    rw [cell_of_row _ _ _ _ _ (0, 0) (heap_alloc_new w _)]
    rfl
theorem below_drew {B : Nat} {a w : World} (h : Below B a w) : Below B a w.drew := ⟨h.os, h.tape, h.output, h.size, h.block⟩
theorem below_drewN {B : Nat} {a w : World} (h : Below B a w) (n : Nat) : Below B a (w.drewN n) := ⟨h.os, h.tape, h.output, h.size, h.block⟩
theorem below_box (w : World) (o : Obj) : Below w.heap.size w (w.alloc o) := (Below.refl _ _).alloc (Nat.le_refl _) _

theorem Good_yes (a l n : Int) (hn : n ≤ 9223372036854775807) (h : Gd a l n) (w : World) :
    Calls Try.prog 8 #[.agg #[.int .i64 a, .int .i64 l], .int .i64 n] w fun e w' => e = .returned (.bool true) ∧ Below w.heap.size w w' := by
  obtain ⟨h1, h2, h3⟩ := h
  have h4 : l ≤ n := by omega
  have h5 : a ≤ n - l := by omega
  go_enter Try.func8, Try.ntmps8
  go_wp2
  go_ret
  exact ⟨retB (by simp), below_box _ _⟩

theorem Good_no (a l n : Int) (ha : I64 a) (hl : I64 l) (hn : I64 n) (h : ¬ Gd a l n) (w : World) :
    Calls Try.prog 8 #[.agg #[.int .i64 a, .int .i64 l], .int .i64 n] w fun e w' => e = .returned (.bool false) ∧ Below w.heap.size w w' := by
  unfold Gd at h
  unfold I64 at ha hl hn
  obtain ⟨ha, ha'⟩ := ha
  obtain ⟨hl, hl'⟩ := hl
  obtain ⟨hn, hn'⟩ := hn
  by_cases h1 : 0 ≤ a
  · by_cases h2 : 0 ≤ l
    · by_cases h3 : l ≤ n
      · have h4 : ¬ a ≤ n - l := by omega
        clear h
        go_enter Try.func8, Try.ntmps8
        go_wp2
        go_ret
        exact ⟨retB (by simp), below_box _ _⟩
      · clear h
        go_enter Try.func8, Try.ntmps8
        go_wp2
        go_ret
        exact ⟨retB (by simp), below_box _ _⟩
    · clear h
      go_enter Try.func8, Try.ntmps8
      go_wp2
      go_ret
      exact ⟨retB (by simp), below_box _ _⟩
  · clear h
    go_enter Try.func8, Try.ntmps8
    go_wp2
    go_ret
    exact ⟨retB (by simp), below_box _ _⟩

theorem Good_any (a l n : Int) (ha : I64 a) (hl : I64 l) (hn : I64 n) (w : World) :
    Calls Try.prog 8 #[.agg #[.int .i64 a, .int .i64 l], .int .i64 n] w fun e w' => e = .returned (.bool (gdB a l n)) ∧ Below w.heap.size w w' := by
  by_cases h : Gd a l n
  · rw [gd_yes h]; exact Good_yes a l n hn.2 h w
  · rw [gd_no h]; exact Good_no a l n ha hl hn h w

theorem refGood_any (a l n : Int) (ha : I64 a) (hl : I64 l) (hn : I64 n) (w : World) :
    Calls Try.prog 9 #[.int .i64 a, .int .i64 l, .int .i64 n] w fun e w' => e = .returned (.bool (gdB a l n)) ∧ w = w' := by
  unfold I64 at ha hl hn
  obtain ⟨ha, ha'⟩ := ha
  obtain ⟨hl, hl'⟩ := hl
  obtain ⟨hn, hn'⟩ := hn
  by_cases h0 : a < 0 ∨ l < 0 ∨ n < 0 ∨ n < a ∨ n < l
  · rw [gd_no (by unfold Gd; omega)]
    by_cases h1 : a < 0
    · clear h0
      go_enter Try.func9, Try.ntmps9
      go_wp2
      go_ret
      exact ⟨rfl, rfl⟩
    by_cases h2 : l < 0
    · clear h0
      go_enter Try.func9, Try.ntmps9
      go_wp2
      go_ret
      exact ⟨rfl, rfl⟩
    by_cases h3 : n < 0
    · clear h0
      go_enter Try.func9, Try.ntmps9
      go_wp2
      go_ret
      exact ⟨rfl, rfl⟩
    by_cases h4 : n < a
    · clear h0
      go_enter Try.func9, Try.ntmps9
      go_wp2
      go_ret
      exact ⟨rfl, rfl⟩
    have h5 : n < l := by omega
    clear h0
    go_enter Try.func9, Try.ntmps9
    go_wp2
    go_ret
    exact ⟨rfl, rfl⟩
  · obtain ⟨h1, h2, h3, h4, h5⟩ : ¬ a < 0 ∧ ¬ l < 0 ∧ ¬ n < 0 ∧ ¬ n < a ∧ ¬ n < l := by omega
    clear h0
    have k1 : 0 ≤ n - l := by omega
    have HE := Lib.hid (show gdB a l n = decide (a ≤ n - l) by unfold gdB; rw [decide_eq_decide]; omega)
    go_enter Try.func9, Try.ntmps9
    go_wp2
    go_ret
    exact ⟨retB HE.out.symm, rfl⟩

/-- The most bytes for which a valid span is valid. -/
theorem most_in : I64 4611686018427387904 := by unfold I64; omega

theorem valid_any (a l : Int) (ha : I64 a) (hl : I64 l) (w : World) :
    Calls Try.prog 24 #[.agg #[.int .i64 a, .int .i64 l]] w fun e w' => e = .returned (.bool (gdB a l 4611686018427387904)) ∧ Below w.heap.size w w' := by
  have HG := Lib.hid (fun w => Good_any a l 4611686018427387904 ha hl most_in w)
  generalize gdB a l 4611686018427387904 = b at *
  go_enter Try.func24, Try.ntmps24
  go_wp2_with fail
  refine (HG.out _).mono ?_; rintro e w1 ⟨rfl, b1⟩
  go_wp2_with fail
  go_ret
  exact ⟨rfl, chain (below_box _ _) (Nat.le_refl _) b1⟩

theorem End_any (a l : Int) (ha : I64 a) (hl : I64 l) (w : World) :
    Calls Try.prog 10 #[.agg #[.int .i64 a, .int .i64 l]] w fun e w' => e = .returned (.int .i64 (endI a l)) ∧ Below w.heap.size w w' := by
  have hG := fun w => valid_any a l ha hl w
  by_cases h : Gd a l 4611686018427387904
  · rw [gd_yes h] at hG
    rw [end_yes h]
    obtain ⟨h1, h2, h3⟩ := h
    have HG := Lib.hid hG
    clear hG
    go_enter Try.func10, Try.ntmps10
    go_wp2_with fail
    refine (HG.out _).mono ?_; rintro e w1 ⟨rfl, b1⟩
    obtain ⟨c0, c1, c2⟩ := box_cells b1
    go_wp2_with fail
    go_ret
    exact ⟨rfl, chain (below_box _ _) (Nat.le_refl _) b1⟩
  · rw [gd_no h] at hG
    rw [end_no h]
    have HG := Lib.hid hG
    clear hG h
    go_enter Try.func10, Try.ntmps10
    go_wp2_with fail
    refine (HG.out _).mono ?_; rintro e w1 ⟨rfl, b1⟩
    go_wp2_with fail
    go_ret
    exact ⟨rfl, chain (below_box _ _) (Nat.le_refl _) b1⟩

theorem refEnd_any (a l : Int) (ha : I64 a) (hl : I64 l) (w : World) :
    Calls Try.prog 11 #[.int .i64 a, .int .i64 l] w fun e w' => e = .returned (.int .i64 (endI a l)) ∧ w = w' := by
  have hG := fun w => refGood_any a l 4611686018427387904 ha hl most_in w
  by_cases h : Gd a l 4611686018427387904
  · rw [gd_yes h] at hG
    rw [end_yes h]
    obtain ⟨h1, h2, h3⟩ := h
    have HG := Lib.hid hG
    clear hG
    go_enter Try.func11, Try.ntmps11
    go_wp2_with fail
    refine (HG.out _).mono ?_; rintro e w1 ⟨rfl, rfl⟩
    go_wp2_with fail
    go_ret
    exact ⟨rfl, rfl⟩
  · rw [gd_no h] at hG
    rw [end_no h]
    have HG := Lib.hid hG
    clear hG h
    go_enter Try.func11, Try.ntmps11
    go_wp2_with fail
    refine (HG.out _).mono ?_; rintro e w1 ⟨rfl, rfl⟩
    go_wp2_with fail
    go_ret
    exact ⟨rfl, rfl⟩

end Go.Proofs.Ytokfhaflfaldnaa
