/- Contracts of layer 3: the document's own answers: do widths go into a total; masks, bits and parts. -/
import Derived.Test.YtkalflhepnbppaaBitsA
namespace Go.Proofs.Ytkalflhepnbppaa
open Go.ChangeShapes Go.WideShapes Go.ChangeAt Go.RowKit
set_option linter.unusedVariables false

set_option maxHeartbeats 1000000 in
theorem refGoes_any (t : Int) (a : Option Addr) (cap : Nat) (l : List Int) (w : World) (hl : l.length ≤ maxLen) (h : Rd .i64 w a l) :
    Calls Try.prog 9 #[.int .i64 t, .slice a l.length cap] w fun e w' => e = .returned (.bool (goesB t l)) ∧ w = w' := by
  unfold maxLen at hl
  by_cases ht : isTotal t
  · have HT := Lib.hid ht
    unfold isTotal at ht
    have H := Lib.hid h
    clear h
    rcases ht with rfl | rfl | rfl | rfl | rfl
    all_goals
      go_enter Try.func9, Try.ntmps9
      go_wp2
      go_loop [5, 6] (fun r i => ∃ (k : Nat) (s : Int), k ≤ l.length ∧ i = .int .i64 k ∧ r = .int .i64 s ∧ 0 ≤ s ∧ s ≤ 64 ∧ Hid (s = pre l k) ∧ Hid (AllIn l k)) (fun _ i => l.length - (intOf i).toNat)
      case atStart => exact ⟨0, 0, by omega, rfl, rfl, by omega, by omega, Lib.hid (by rw [pre_zero]), Lib.hid fun j hj => absurd hj (by omega)⟩
      case round =>
        obtain ⟨k, s, hk, rfl, rfl, hs0, hs1, HS, HA⟩ := hrel
        by_cases hlt : k < l.length
        · obtain ⟨x, rfl, _, hc⟩ := H.out.at_ hlt
          obtain ⟨y, HY⟩ : ∃ y, Hid (el l k = y) := ⟨_, Lib.hid rfl⟩
          rw [HY.out] at hc
          by_cases h1 : y < 1
          · go_wp2
            go_ret
            exact ⟨ret_bool (goes_low hlt (by rw [HY.out]; exact h1)).symm, rfl⟩
          · have hd1 : decide (y < 1) = false := by simpa using h1
            by_cases h2 : 64 < y
            · go_wp2
              go_ret
              exact ⟨ret_bool (goes_wide hlt (by rw [HY.out]; exact h2)).symm, rfl⟩
            · have h1' : 1 ≤ y := by omega
              have h2' : y ≤ 64 := by omega
              have hd2 : decide (64 < y) = false := by simpa using h2
              clear h1 h2
              go_wp2
              · go_ret
                exact ⟨ret_bool (goes_high hlt (by rw [HY.out, ← HS.out]; omega)).symm, rfl⟩
              · go_round
                case rel => exact ⟨k + 1, s + y, by omega, by go_num, rfl, by omega, by omega, Lib.hid (by rw [pre_succ, HY.out, HS.out]), Lib.hid (HA.out.succ (by rw [HY.out]; omega) (by rw [HY.out]; omega))⟩
                case measure => simp [intOf]; omega
        · obtain rfl : k = l.length := by omega
          go_wp2
          go_ret
          exact ⟨ret_bool (by rw [goes_end HT.out HA.out, ← HS.out, Bool.eq_iff_iff]; simp), rfl⟩
  · have hF := goes_total (l := l) ht
    have HF := Lib.hid hF
    clear hF
    obtain ⟨t1, t2, t3, t4, t5⟩ : t ≠ 8 ∧ t ≠ 16 ∧ t ≠ 24 ∧ t ≠ 32 ∧ t ≠ 64 := by unfold isTotal at ht; omega
    have b1 := bne_iff_ne.2 t1
    have b2 := bne_iff_ne.2 t2
    have b3 := bne_iff_ne.2 t3
    have b4 := bne_iff_ne.2 t4
    have b5 := bne_iff_ne.2 t5
    go_enter Try.func9, Try.ntmps9
    go_wp2
    go_ret
    exact ⟨ret_bool HF.out.symm, rfl⟩

end Go.Proofs.Ytkalflhepnbppaa
