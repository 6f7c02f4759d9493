/- Layer 11: wakes. -/
import Derived.Test.YtoengahfkfmfeaaBdC
set_option linter.unusedVariables false
set_option linter.unusedSimpArgs false
namespace Go.Proofs.Ytoengahfkfmfeaa
open Go.ChangeShapes Go.WideShapes Go.ChangeAt Go.RowKit

theorem wake1 : opB [45] (3, 9) (5, 6) = some (0, 4) := by decide +kernel
theorem wake2 : opB [45] (3, 3) (5, 5) = none := by decide +kernel
theorem wr_of {a b : Int} (h1 : 0 ≤ a) (h2 : a ≤ 18446744073709551615) (h3 : 0 ≤ b) (h4 : b ≤ 18446744073709551615) : WR (a, b) := ⟨⟨h1, h2⟩, ⟨h3, h4⟩⟩
theorem wakeOp1 (w : World) : Calls Try.prog 9 #[.string ⟨#[45]⟩, .agg #[.int .u64 3, .int .u64 9], .agg #[.int .u64 5, .int .u64 6]] w fun e w' => e = .returned (.tuple #[.agg #[.int .u64 0, .int .u64 4], .bool true]) ∧ Below w.heap.size w w' := by
  have := bOp_any ⟨#[45]⟩ (3, 9) (5, 6) (wr_of (by decide) (by decide) (by decide) (by decide)) (wr_of (by decide) (by decide) (by decide) (by decide)) w
  rw [show (⟨#[45]⟩ : ByteArray).toList = [45] from by rw [ByteArray.toList_eq], wake1] at this
  exact this
theorem wakeOp2 (w : World) : Calls Try.prog 9 #[.string ⟨#[45]⟩, .agg #[.int .u64 3, .int .u64 3], .agg #[.int .u64 5, .int .u64 5]] w fun e w' => e = .returned (.tuple #[.agg #[.int .u64 0, .int .u64 0], .bool false]) ∧ Below w.heap.size w w' := by
  have := bOp_any ⟨#[45]⟩ (3, 3) (5, 5) (wr_of (by decide) (by decide) (by decide) (by decide)) (wr_of (by decide) (by decide) (by decide) (by decide)) w
  rw [show (⟨#[45]⟩ : ByteArray).toList = [45] from by rw [ByteArray.toList_eq], wake2] at this
  exact this
theorem wakeAll (w : World) : Calls Try.prog 16 #[.int .i64 8] w fun e w' => e = .returned (.agg #[.int .u64 0, .int .u64 255]) ∧ Below w.heap.size w w' := by
  have := All_any 8 (by decide) w
  rw [show maskV 8 = 255 from by decide] at this
  exact this
set_option maxHeartbeats 2000000 in
set_option maxRecDepth 100000 in
theorem wakes_any (w : World) : Calls Try.prog 11 #[] w fun e w' => e = .returned (.bool true) ∧ Below w.heap.size w w' := by
  have C1 := Lib.hid wakeOp1
  have C2 := Lib.hid wakeOp2
  have C3 := Lib.hid wakeAll
  have C4 := Lib.hid Point_any
  go_enter Try.func11, Try.ntmps11
  go_upto_region 2 with (go_at_call 9; refine (C1.out _).mono ?_; rintro e w1 ⟨rfl, hb1⟩; have D1 := Lib.hid (show Duo (w1.alloc (.cells #[.int .u64 0, .int .u64 4] 25)) w1.heap.size 25 (.int .u64 0) (.int .u64 4) from World.alloc_heap_new _ _); have B1 := Lib.hid (hb1.alloc hb1.size (.cells #[.int .u64 0, .int .u64 4] 25)); have hs1 : (w1.alloc (.cells #[.int .u64 0, .int .u64 4] 25)).heap.size = w1.heap.size + 1 := (by simp))
  generalize w1.alloc (.cells #[.int .u64 0, .int .u64 4] 25) = W1 at *
  clear hb1 C1
  go_upto_region 3 with (first
    | (go_at_call 15; refine (C4.out _ _).mono ?_; rintro e w2 ⟨rfl, hb2⟩; replace D1 := Lib.hid (Duo.keep D1.out hb2 (by have := D1.out.lt; omega)); replace B1 := Lib.hid (B1.out.trans (hb2.mono B1.out.size)); have hs2 := hb2.size; clear hb2)
    | (go_at_call 9; refine (C2.out _).mono ?_; rintro e w2 ⟨rfl, hb2⟩; replace D1 := Lib.hid (Duo.keep (Duo.keep D1.out hb2 D1.out.lt) ((Below.refl w2.heap.size w2).alloc (Nat.le_refl _) (.cells #[.int .u64 0, .int .u64 0] 25)) (Nat.lt_of_lt_of_le D1.out.lt hb2.size)); replace B1 := Lib.hid ((B1.out.trans (hb2.mono B1.out.size)).alloc (Nat.le_trans B1.out.size hb2.size) (.cells #[.int .u64 0, .int .u64 0] 25))))
  have D1 := D1
  obtain ⟨W2, hW2⟩ : ∃ W2, w2.alloc (.cells #[.int .u64 0, .int .u64 0] 25) = W2 := ⟨_, rfl⟩
  rw [hW2] at D1 B1 ⊢
  clear hW2
  have c0 := D1.out.c0
  have c1 := D1.out.c1
  go_wp2_with (go_at_call 16; refine (C3.out _).mono ?_; rintro e w3 ⟨rfl, hb3⟩; have B3 := Lib.hid (B1.out.trans (hb3.mono B1.out.size)); clear hb3)
  go_ret
  exact ⟨by simp, B3.out⟩
end Go.Proofs.Ytoengahfkfmfeaa
