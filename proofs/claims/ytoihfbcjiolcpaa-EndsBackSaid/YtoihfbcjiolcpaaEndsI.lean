/- Layer 2's law EndsGets. -/
import Derived.Test.YtoihfbcjiolcpaaEndsH
namespace Go.Proofs.Ytoihfbcjiolcpaa
open Go.ChangeShapes Go.WideShapes Go.ChangeAt Go.RowKit
set_option linter.unusedVariables false

theorem EndsGets_walk (a0 : ByteArray) (a1 : Int) (a2 : Int) (w0 : a0.size ≤ maxLen) (w1 : (Lit.int .i64 a1).wf = true) (w2 : (Lit.int .i64 a2).wf = true) (z0 : a0.size ≤ reachBytes) (w : World) :
    Calls Try.prog 4 #[.string a0, .int .i64 a1, .int .i64 a2] w fun e w' => e = .returned (.bool true) ∧ Below w.heap.size w w' := by
  unfold reachBytes at z0
  have hA := fun w => Turn_any a0 (by omega) w
  have hB := fun w => refTurn_any a0 (by omega) w
  have HA := Lib.hid hA
  have HB := Lib.hid hB
  clear hA hB
  go_enter Try.func4, Try.ntmps4
  go_wp2_with fail
  refine (sizes_any a2 _).mono ?_; rintro e w2' ⟨rfl, r2, b2⟩
  go_wp2_with fail
  go_loopw [18] (fun i wr => ∃ k : Nat, k ≤ 7 ∧ i = .int .i64 k ∧ Row 3 .i64 w.heap.size wr w.heap.size 7 (sizesL a2) ∧ Below w.heap.size w wr) (fun i _ => 7 - (intOf i).toNat)
  case atStart => exact ⟨0, by omega, rfl, r2, b2⟩
  case round =>
    obtain ⟨k, hk, rfl, hr, hb⟩ := hrel
    by_cases hlt : k < 7
    · have hc := hr.cell (j := k) hlt
      generalize el (sizesL a2) k = x at hc
      have hP := fun l w => Get_any a0 a1 x l w0 w
      have hQ := fun l w => refGet_any a0 a1 x l w0 w
      obtain ⟨r, hre⟩ : ∃ r : Bool → Int × Int, ∀ l, getR a0.data.toList a1 x l = r l := ⟨_, fun _ => rfl⟩
      simp only [hre] at hP hQ
      have HP := Lib.hid hP
      have HQ := Lib.hid hQ
      clear hP hQ hre
      have hsz := hb.size
      go_wp2_with fail
      refine wp_loop_rounds 3 ?_
      repeat any_goals (rw [rounds_succ]; go_wp2_with (first | ((with_reducible refine (HP.out _ _).mono ?_); rintro e w' ⟨rfl, rfl⟩) | ((with_reducible refine (HQ.out _ _).mono ?_); rintro e w' ⟨rfl, rfl⟩)))
      go_roundw
      case rel =>
        exact ⟨k + 1, by omega, by go_num, hr.alloc _, hb.alloc hsz _⟩
      case measure => simp [intOf]; omega
    · obtain rfl : k = 7 := by omega
      go_wp2_with fail
      refine (wakes_any _).mono ?_; rintro e w7 ⟨rfl, b7⟩
      go_wp2_with fail
      refine (HA.out _).mono ?_; rintro e w8 ⟨rfl, b8⟩
      go_wp2_with fail
      refine (HB.out _).mono ?_; rintro e w9 ⟨rfl, b9⟩
      go_wp2_with fail
      go_ret
      exact ⟨rfl, chain (chain (hb.trans (b7.mono hb.size)) (Nat.le_refl _) b8) (Nat.le_refl _) b9⟩

end Go.Proofs.Ytoihfbcjiolcpaa
