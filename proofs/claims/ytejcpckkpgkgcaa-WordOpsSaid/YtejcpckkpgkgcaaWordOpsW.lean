/- The law WordOps: its walk. -/
import Derived.Test.YtejcpckkpgkgcaaWordSumsW
namespace Go.Proofs.Ytejcpckkpgkgcaa
open Go.ChangeShapes Go.WideShapes Go.ChangeAt Go.RowKit
set_option linter.unusedVariables false

theorem WordOps_walk (a0 : ByteArray) (a1 : Int) (a2 : Int) (w0 : a0.size ≤ maxLen) (w1 : (Lit.int .u64 a1).wf = true) (w2 : (Lit.int .u64 a2).wf = true) (w : World) :
    Calls Try.prog 6 #[.string a0, .int .u64 a1, .int .u64 a2] w fun e w' => e = .returned (.bool true) ∧ Below w.heap.size w w' := by
  have ha : W64 a1 := bounds_u64 w1
  have hb : W64 a2 := bounds_u64 w2
  have HW := Lib.hid wakes_any
  unfold maxLen at w0
  go_enter Try.func6, Try.ntmps6
  go_wp2_with fail
  all_goals
    go_loopw [8, 9, 10, 11, 12, 21] (fun _ _ _ _ _ i wr => ∃ k : Nat, ∃ s0 : ByteArray, k ≤ 11 ∧ i = .int .i64 k ∧ Below (w.heap.size + 1) (w.alloc (.cells #[.string s0, .string ⟨#[38]⟩, .string ⟨#[124]⟩, .string ⟨#[61, 61]⟩, .string ⟨#[33, 61]⟩, .string ⟨#[60]⟩, .string ⟨#[60, 61]⟩, .string ⟨#[62]⟩, .string ⟨#[62, 61]⟩, .string ⟨#[38, 38]⟩, .string ⟨#[124, 124]⟩] 9)) wr) (fun _ _ _ _ _ i _ => 11 - (intOf i).toNat)
    case atStart => exact ⟨0, _, by omega, rfl, Below.refl _ _⟩
    case round =>
      obtain ⟨k, s0, hk, rfl, hbel⟩ := hrel
      by_cases hlt : k < 11
      · obtain ⟨s, hs⟩ : ∃ s, wr.cell? ⟨w.heap.size, k, none⟩ = some (.string s) := by
          rw [hbel.cell (p := ⟨w.heap.size, k, none⟩) (Nat.lt_succ_self _)]
          obtain rfl | rfl | rfl | rfl | rfl | rfl | rfl | rfl | rfl | rfl | rfl : k = 0 ∨ k = 1 ∨ k = 2 ∨ k = 3 ∨ k = 4 ∨ k = 5 ∨ k = 6 ∨ k = 7 ∨ k = 8 ∨ k = 9 ∨ k = 10 := by omega
          all_goals exact ⟨_, by simp [go_sem]; rfl⟩
        obtain ⟨x, e, he, ⟨C1, C2⟩, hop⟩ := Op_vals s a1 a2 ha hb
        clear hop
        go_wp2_with (first | ((with_reducible refine (C1.out _).mono ?_); rintro r w' ⟨rfl, rfl⟩) | ((with_reducible refine (C2.out _).mono ?_); rintro r w2 ⟨rfl, hb2⟩))
        go_roundw
        case rel => exact ⟨k + 1, s0, by omega, by go_num, hbel.trans (hb2.mono (by have := hbel.size; simp at this; omega))⟩
        case measure => simp [intOf]; omega
      · obtain rfl : k = 11 := by omega
        go_wp2_with (first | ((with_reducible refine (HW.out _).mono ?_); rintro r w' ⟨rfl, rfl⟩))
        go_ret
        exact ⟨rfl, ((Below.refl _ _).alloc (Nat.le_refl _) _).trans (hbel.mono (Nat.le_succ _))⟩

end Go.Proofs.Ytejcpckkpgkgcaa
