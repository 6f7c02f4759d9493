/- Layer 2's laws: the sizes that they try, and the document's fixed examples. -/
import Derived.Test.YtoihfbcjiolcpaaEndsF
namespace Go.Proofs.Ytoihfbcjiolcpaa
open Go.ChangeShapes Go.WideShapes Go.ChangeAt Go.RowKit
set_option linter.unusedVariables false

def sizesL (n : Int) : List Int := [n, bits .and .i64 n 15, 1, 2, 3, 4, 8]

theorem sizes_any (n : Int) (w : World) :
    Calls Try.prog 7 #[.int .i64 n] w fun e w' => e = .returned (.slice (some ⟨w.heap.size, 0, none⟩) 7 7) ∧ Row 3 .i64 w.heap.size w' w.heap.size 7 (sizesL n) ∧ Below w.heap.size w w' := by
  go_enter Try.func7, Try.ntmps7
  go_wp2
  go_ret
  exact ⟨rfl, World.ownsRow_lit w _ 7 (Nat.le_refl _) (by unfold maxLen; omega) rfl, (Below.refl _ _).alloc (Nat.le_refl _) _⟩

theorem wakes_any (w : World) : Calls Try.prog 14 #[] w fun e w' => e = .returned (.bool true) ∧ Below w.heap.size w w' := by
  have h1 := fun w => Put_any 258 2 false ⟨by decide, by decide⟩ w
  have h2 := fun w => Put_any 258 2 true ⟨by decide, by decide⟩ w
  have h3 := fun w => Put_any 256 1 false ⟨by decide, by decide⟩ w
  have h4 := fun w => Get_any ⟨#[1, 2]⟩ 0 2 false (by decide) w
  rw [show putR 258 2 false = ([1, 2], 0) from by decide] at h1
  rw [show putR 258 2 true = ([2, 1], 0) from by decide] at h2
  rw [show putR 256 1 false = ([], 5) from by decide] at h3
  rw [show getR (ByteArray.data ⟨#[1, 2]⟩).toList 0 2 false = (258, 0) from by decide] at h4
  have H1 := Lib.hid h1; have H2 := Lib.hid h2; have H3 := Lib.hid h3; have H4 := Lib.hid h4
  clear h1 h2 h3 h4
  go_enter Try.func14, Try.ntmps14
  go_wp2_with fail
  refine (H1.out _).mono ?_; rintro e w1 ⟨rfl, b1⟩
  go_wp2_with fail
  refine (H2.out _).mono ?_; rintro e w2 ⟨rfl, b2⟩
  go_wp2_with fail
  refine (H3.out _).mono ?_; rintro e w3 ⟨rfl, b3⟩
  go_wp2_with fail
  refine (H4.out _).mono ?_; rintro e w4 ⟨rfl, rfl⟩
  go_wp2_with fail
  go_ret
  exact ⟨rfl, (b1.trans (b2.mono b1.size)).trans (b3.mono (Nat.le_trans b1.size b2.size))⟩

theorem putR_size (n k : Int) (little : Bool) : (ByteArray.mk (putR n k little).1.toArray).size ≤ 140737488355328 := by
  show (putR n k little).1.toArray.size ≤ _
  unfold putR
  split
  · rename_i h
    have := good_le h
    split <;> simp [orient_length, encN_length]
    omega
  · simp

theorem EndsPuts_walk (a0 : Int) (a1 : Int) (a2 : Bool) (w0 : (Lit.int .u64 a0).wf = true) (w1 : (Lit.int .i64 a1).wf = true) (w : World) :
    Calls Try.prog 3 #[.int .u64 a0, .int .i64 a1, .bool a2] w fun e w' => e = .returned (.bool true) ∧ Below w.heap.size w w' := by
  have ha : W64 a0 := bounds_u64 w0
  go_enter Try.func3, Try.ntmps3
  go_wp2_with fail
  refine (sizes_any a1 _).mono ?_; rintro e w2 ⟨rfl, r2, b2⟩
  go_wp2_with fail
  go_loopw [16] (fun i wr => ∃ k : Nat, k ≤ 7 ∧ i = .int .i64 k ∧ Row 3 .i64 w.heap.size wr w.heap.size 7 (sizesL a1) ∧ Below w.heap.size w wr) (fun i _ => 7 - (intOf i).toNat)
  case atStart => exact ⟨0, by omega, rfl, r2, b2⟩
  case round =>
    obtain ⟨k, hk, rfl, hr, hb⟩ := hrel
    by_cases hlt : k < 7
    · have hc := hr.cell (j := k) hlt
      generalize el (sizesL a1) k = x at hc
      have hT : ∀ w, Calls Try.prog 12 #[.string ⟨(putR a0 x a2).1.toArray⟩] w (TextPost (putR a0 x a2).1.reverse w) := fun w => by
        have := Turn_any ⟨(putR a0 x a2).1.toArray⟩ (putR_size a0 x a2) w
        simpa using this
      have hU : ∀ w, Calls Try.prog 13 #[.string ⟨(putR a0 x a2).1.toArray⟩] w (TextPost (putR a0 x a2).1.reverse w) := fun w => by
        have := refTurn_any ⟨(putR a0 x a2).1.toArray⟩ (putR_size a0 x a2) w
        simpa using this
      have hP := fun w => Put_any a0 x a2 ha w
      have hQ := fun w => refPut_any a0 x a2 ha w
      have HT := Lib.hid hT
      have HU := Lib.hid hU
      have HP := Lib.hid hP
      have HQ := Lib.hid hQ
      clear hT hU hP hQ
      generalize putR a0 x a2 = r at HT HU HP HQ
      obtain ⟨r1, r2⟩ := r
      simp only at HT HU HP HQ
      go_wp2_with fail
      refine (HP.out _).mono ?_; rintro e w3 ⟨rfl, b3⟩
      go_wp2_with fail
      refine (HQ.out _).mono ?_; rintro e w4 ⟨rfl, b4⟩
      go_wp2_with (first | (go_at_call 10; refine (Good_any _ _).mono ?_; rintro e w' ⟨rfl, rfl⟩) | (go_at_call 11; refine (refGood_any _ _).mono ?_; rintro e w' ⟨rfl, rfl⟩) | ((with_reducible refine (HT.out _).mono ?_); rintro e w5 ⟨rfl, b5⟩) | ((with_reducible refine (HU.out _).mono ?_); rintro e w6 ⟨rfl, b6⟩))
      go_roundw
      case rel =>
        have hb6 : Below wr.heap.size wr w6 := chain (chain (chain b3 (Nat.le_refl _) b4) (Nat.le_refl _) b5) (Nat.le_refl _) b6
        exact ⟨k + 1, by omega, by go_num, hr.below hb6 hr.lt.2, hb.trans (hb6.mono hb.size)⟩
      case measure => simp [intOf]; omega
    · obtain rfl : k = 7 := by omega
      go_wp2_with fail
      refine (wakes_any _).mono ?_; rintro e w7 ⟨rfl, b7⟩
      go_wp2_with fail
      go_ret
      exact ⟨rfl, hb.trans (b7.mono hb.size)⟩

end Go.Proofs.Ytoihfbcjiolcpaa
