/- The law WordSums: its walk. -/
import Derived.Test.YtejcpckkpgkgcaaRefD
namespace Go.Proofs.Ytejcpckkpgkgcaa
open Go.ChangeShapes Go.WideShapes Go.ChangeAt Go.RowKit
set_option linter.unusedVariables false

/-- A pair's numbers, under names that the walk does not open; the error's number is small. -/
theorem Op_vals (s : ByteArray) (a b : Int) (ha : W64 a) (hb : W64 b) : ∃ x e : Int, (0 ≤ e ∧ e ≤ 9) ∧
    (∃ _ : Hid (∀ w, Calls Try.prog 9 #[.string s, .int .u64 a, .int .u64 b] w fun r w' => r = .returned (.tuple #[.int .u64 x, .int .i64 e]) ∧ w = w'),
    Hid (∀ w, Calls Try.prog 10 #[.string s, .int .u64 a, .int .u64 b] w fun r w' => r = .returned (.tuple #[.int .u64 x, .int .i64 e]) ∧ Below w.heap.size w w')) ∧ opR s.toList a b = (x, e) :=
  ⟨_, _, (op_ok s.toList ha hb).2, ⟨Lib.hid (Op_any s a b ha hb), Lib.hid (refOp_any s a b ha hb)⟩, rfl⟩

theorem bcell {W w1 : World} (hb : Below W.heap.size W w1) : (∀ b o, b < W.heap.size → w1.cell? ⟨b, o, none⟩ = W.cell? ⟨b, o, none⟩) ∧ (∀ b o, b < W.heap.size → w1.frozen? ⟨b, o, none⟩ = W.frozen? ⟨b, o, none⟩) :=
  ⟨fun b o h => hb.cell (p := ⟨b, o, none⟩) h, fun b o h => hb.frozen (p := ⟨b, o, none⟩) h⟩

theorem Op_plus (a b : Int) (ha : W64 a) (hb : W64 b) (w : World) :
    Calls Try.prog 9 #[.string ⟨#[43]⟩, .int .u64 a, .int .u64 b] w fun r w' => r = pairOf (addR a b) ∧ w = w' := by
  have c := Op_any ⟨#[43]⟩ a b ha hb w
  rw [show opR (ByteArray.toList ⟨#[43]⟩) a b = addR a b from by simp [go_sem, opR]] at c
  exact c

theorem WordSums_walk (a0 : Int) (a1 : Int) (w0 : (Lit.int .u64 a0).wf = true) (w1 : (Lit.int .u64 a1).wf = true) (w : World) :
    Calls Try.prog 3 #[.int .u64 a0, .int .u64 a1] w fun e w' => e = .returned (.bool true) ∧ Below w.heap.size w w' := by
  have ha : W64 a0 := bounds_u64 w0
  have hb : W64 a1 := bounds_u64 w1
  have HW := Lib.hid wakes_any
  go_enter Try.func3, Try.ntmps3
  go_wp2_with fail
  go_loopw [6, 7, 8, 9, 10, 17] (fun _ _ _ _ _ i wr => ∃ k : Nat, k ≤ 5 ∧ i = .int .i64 k ∧ Below (w.heap.size + 1) (w.alloc (.cells #[.string ⟨#[43]⟩, .string ⟨#[45]⟩, .string ⟨#[42]⟩, .string ⟨#[47]⟩, .string ⟨#[37]⟩] 9)) wr) (fun _ _ _ _ _ i _ => 5 - (intOf i).toNat)
  case atStart => exact ⟨0, by omega, rfl, Below.refl _ _⟩
  case round =>
    obtain ⟨k, hk, rfl, hbel⟩ := hrel
    by_cases hlt : k < 5
    · obtain ⟨s, hs⟩ : ∃ s, wr.cell? ⟨w.heap.size, k, none⟩ = some (.string s) := by
        rw [hbel.cell (p := ⟨w.heap.size, k, none⟩) (Nat.lt_succ_self _)]
        obtain rfl | rfl | rfl | rfl | rfl : k = 0 ∨ k = 1 ∨ k = 2 ∨ k = 3 ∨ k = 4 := by omega
        all_goals exact ⟨_, by simp [go_sem]; rfl⟩
      obtain ⟨x, e, he, ⟨C1, C2⟩, hop⟩ := Op_vals s a0 a1 ha hb
      clear hop
      go_wp2_with (first | ((with_reducible refine (C1.out _).mono ?_); rintro r w' ⟨rfl, rfl⟩) | ((with_reducible refine (C2.out _).mono ?_); rintro r w2 ⟨rfl, hb2⟩))
      go_roundw
      case rel => exact ⟨k + 1, by omega, by go_num, hbel.trans (hb2.mono (by have := hbel.size; simp at this; omega))⟩
      case measure => simp [intOf]; omega
    · obtain rfl : k = 5 := by omega
      have A1 := Lib.hid (Add_any a0 a1 ha hb)
      have A2 := Lib.hid (Op_plus a0 a1 ha hb)
      go_wp2_with (first | ((with_reducible refine (A1.out _).mono ?_); rintro r w' ⟨rfl, rfl⟩) | ((with_reducible refine (A2.out _).mono ?_); rintro r w' ⟨rfl, rfl⟩) | ((with_reducible refine (HW.out _).mono ?_); rintro r w' ⟨rfl, rfl⟩))
      go_ret
      exact ⟨rfl, ((Below.refl _ _).alloc (Nat.le_refl _) _).trans (hbel.mono (Nat.le_succ _))⟩

end Go.Proofs.Ytejcpckkpgkgcaa
