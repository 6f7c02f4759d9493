/- Contracts of layer 3: do widths go into a total; by package bits and by the document. -/
import Derived.Test.YtkalflhepnbppaaWordM
import Derived.Test.YtkalflhepnbppaaBitsP
import Derived.Test.YtkalflhepnbppaaRd
import Derived.StillTailTactics
import Derived.Handy
namespace Go.Proofs.Ytkalflhepnbppaa
open Go.ChangeShapes Go.WideShapes Go.ChangeAt Go.RowKit
set_option linter.unusedVariables false

/-- What holds of the first k widths. -/
def AllIn (l : List Int) (k : Nat) : Prop := ∀ j, j < k → 1 ≤ el l j ∧ el l j ≤ 64
theorem AllIn.succ {l : List Int} {k : Nat} (h : AllIn l k) (h1 : 1 ≤ el l k) (h2 : el l k ≤ 64) : AllIn l (k + 1) := fun j hj => by
  by_cases e : j = k
  · subst e; exact ⟨h1, h2⟩
  · exact h j (by omega)

set_option maxHeartbeats 1000000 in
theorem fit_any (t : Int) (a : Option Addr) (cap : Nat) (l : List Int) (w : World) (hl : l.length ≤ maxLen) (h : Rd .i64 w a l) :
    Calls Try.prog 20 #[.int .i64 t, .slice a l.length cap] w fun e w' => e = .returned (.bool (goesB t l)) ∧ w = w' := by
  unfold maxLen at hl
  by_cases ht : isTotal t
  · have HT := Lib.hid ht
    unfold isTotal at ht
    have H := Lib.hid h
    clear h
    rcases ht with rfl | rfl | rfl | rfl | rfl
    all_goals
      go_enter Try.func20, Try.ntmps20
      go_wp2
      go_loop [5, 18] (fun r i => ∃ (k : Nat) (s : Int), k ≤ l.length ∧ i = .int .i64 k ∧ r = .int .i64 s ∧ 0 ≤ s ∧ s ≤ 64 ∧ Hid (s + pre l k = intOf (.int .i64 _)) ∧ Hid (AllIn l k)) (fun _ i => l.length - (intOf i).toNat)
      case atStart => exact ⟨0, _, by omega, rfl, rfl, by omega, by omega, Lib.hid (by rw [pre_zero]; rfl), Lib.hid fun j hj => absurd hj (by omega)⟩
      case round =>
        obtain ⟨k, s, hk, rfl, rfl, hs0, hs1, HS, HA⟩ := hrel
        by_cases hlt : k < l.length
        · obtain ⟨x, rfl, _, hc⟩ := H.out.at_ hlt
          obtain ⟨y, HY⟩ : ∃ y, Hid (el l k = y) := ⟨_, Lib.hid rfl⟩
          rw [HY.out] at hc
          by_cases h1 : y < 1
          · go_wp2
            go_ret
            exact ⟨ret_bool (goes_low hlt (by rw [HY.out]; exact h1)).symm, rfl⟩
          · by_cases h2 : s < y
            · go_wp2
              go_ret
              exact ⟨ret_bool (goes_high hlt (by have := HS.out; simp only [intOf] at this; rw [HY.out]; omega)).symm, rfl⟩
            · have h1' : 1 ≤ y := by omega
              have h2' : y ≤ s := by omega
              have hd1 : decide (y < 1) = false := by simpa using h1
              have hd2 : decide (s < y) = false := by simpa using h2
              clear h1 h2
              go_wp2
              go_round
              case rel => exact ⟨k + 1, s - y, by omega, by go_num, rfl, by omega, by omega, Lib.hid (by have := HS.out; simp only [intOf] at this ⊢; rw [pre_succ, HY.out]; omega), Lib.hid (HA.out.succ (by rw [HY.out]; omega) (by rw [HY.out]; omega))⟩
              case measure => simp [intOf]; omega
        · obtain rfl : k = l.length := by omega
          go_wp2
          go_ret
          exact ⟨ret_bool (goes_rest HT.out HA.out HS.out), rfl⟩
  · have hF := goes_total (l := l) ht
    have HF := Lib.hid hF
    clear hF
    obtain ⟨t1, t2, t3, t4, t5⟩ : t ≠ 8 ∧ t ≠ 16 ∧ t ≠ 24 ∧ t ≠ 32 ∧ t ≠ 64 := by unfold isTotal at ht; omega
    go_enter Try.func20, Try.ntmps20
    go_wp2
    go_ret
    exact ⟨ret_bool HF.out.symm, rfl⟩

end Go.Proofs.Ytkalflhepnbppaa
