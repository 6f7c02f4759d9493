/- Layer 2's laws: EndsTurn and EndsGets. -/
import Derived.Test.YtoihfbcjiolcpaaEndsG
namespace Go.Proofs.Ytoihfbcjiolcpaa
open Go.ChangeShapes Go.WideShapes Go.ChangeAt Go.RowKit
set_option linter.unusedVariables false

theorem putR_turn (n k : Int) : putR n k true = ((putR n k false).1.reverse, (putR n k false).2) := by
  unfold putR
  split
  · split <;> simp [orient]
  · simp

/-- A result that is one string, behind a name. -/
def SamePost (s : ByteArray) (w : World) (e : Ending) (w' : World) : Prop := e = .returned (.string s) ∧ Below w.heap.size w w'

theorem EndsTurn_walk (a0 : Int) (a1 : ByteArray) (w0 : (Lit.int .u64 a0).wf = true) (w1 : a1.size ≤ maxLen) (z1 : a1.size ≤ reachBytes) (w : World) :
    Calls Try.prog 6 #[.int .u64 a0, .string a1] w fun e w' => e = .returned (.bool true) ∧ Below w.heap.size w w' := by
  have ha : W64 a0 := bounds_u64 w0
  unfold reachBytes at z1
  have hA := fun w => Turn_any a1 (by omega) w
  have hB : ∀ w, Calls Try.prog 12 #[.string ⟨a1.data.toList.reverse.toArray⟩] w (SamePost a1 w) := fun w =>
    (Turn_any ⟨a1.data.toList.reverse.toArray⟩ (by show a1.data.toList.reverse.toArray.size ≤ _; simp; omega) w).mono fun e w' h => ⟨h.1.trans (by simp), h.2⟩
  have HA := Lib.hid hA
  have HB := Lib.hid hB
  clear hA hB
  go_enter Try.func6, Try.ntmps6
  go_wp2_with fail
  refine (sizes_any 3 _).mono ?_; rintro e w2 ⟨rfl, r2, b2⟩
  go_wp2_with fail
  go_loopw [13] (fun i wr => ∃ k : Nat, k ≤ 7 ∧ i = .int .i64 k ∧ Row 3 .i64 w.heap.size wr w.heap.size 7 (sizesL 3) ∧ Below w.heap.size w wr) (fun i _ => 7 - (intOf i).toNat)
  case atStart => exact ⟨0, by omega, rfl, r2, b2⟩
  case round =>
    obtain ⟨k, hk, rfl, hr, hb⟩ := hrel
    by_cases hlt : k < 7
    · have hc := hr.cell (j := k) hlt
      generalize el (sizesL 3) k = x at hc
      have hT : ∀ w, Calls Try.prog 12 #[.string ⟨(putR a0 x false).1.toArray⟩] w (TextPost (putR a0 x false).1.reverse w) := fun w => by
        have := Turn_any ⟨(putR a0 x false).1.toArray⟩ (putR_size a0 x false) w
        simpa using this
      have hP := fun w => Put_any a0 x false ha w
      have hQ := fun w => Put_any a0 x true ha w
      rw [putR_turn] at hQ
      have HT := Lib.hid hT
      have HP := Lib.hid hP
      have HQ := Lib.hid hQ
      clear hT hP hQ
      generalize putR a0 x false = r at HT HP HQ
      obtain ⟨r1, r2⟩ := r
      simp only at HT HP HQ
      go_wp2_with fail
      refine (HP.out _).mono ?_; rintro e w3 ⟨rfl, b3⟩
      go_wp2_with fail
      refine (HQ.out _).mono ?_; rintro e w4 ⟨rfl, b4⟩
      go_wp2_with ((with_reducible refine (HT.out _).mono ?_); rintro e w5 ⟨rfl, b5⟩)
      go_roundw
      case rel =>
        have hb6 : Below wr.heap.size wr w5 := chain (chain b3 (Nat.le_refl _) b4) (Nat.le_refl _) b5
        exact ⟨k + 1, by omega, by go_num, hr.below hb6 hr.lt.2, hb.trans (hb6.mono hb.size)⟩
      case measure => simp [intOf]; omega
    · obtain rfl : k = 7 := by omega
      go_wp2_with fail
      refine (wakes_any _).mono ?_; rintro e w7 ⟨rfl, b7⟩
      go_wp2_with fail
      refine (HA.out _).mono ?_; rintro e w8 ⟨rfl, b8⟩
      go_wp2_with fail
      refine (HB.out _).mono ?_; rintro e w9 ⟨rfl, b9⟩
      go_wp2_with fail
      go_ret
      exact ⟨rfl, chain (chain (hb.trans (b7.mono hb.size)) (Nat.le_refl _) b8) (Nat.le_refl _) b9⟩

end Go.Proofs.Ytoihfbcjiolcpaa
