/- Contracts of layer 5: the laws' helpers: what the document fixes, and the two rows of numbers that a law goes through. -/
import Derived.Test.YtokfhaflfaldnaaSpanF
import Derived.Laws.Closers25b
namespace Go.Proofs.Ytokfhaflfaldnaa
open Go.ChangeShapes Go.WideShapes Go.ChangeAt Go.RowKit
set_option linter.unusedVariables false
attribute [local go_sem ↓] Go.wp_at_zero Go.wp_at_succ

theorem wakes_any (w : World) : Calls Try.prog 15 #[] w fun e w' => e = .returned (.bool true) ∧ Below w.heap.size w w' := by
  have H1 := Lib.hid (fun w => Of_in 5 (by omega) (by omega) w)
  have H2 := Lib.hid (fun w => Take_ok 0 5 2 (by unfold I64; omega) (by unfold I64; omega) (by omega) (by unfold Gd; omega) (by omega) w)
  have H3 := Lib.hid (fun w => Between_ok 2 3 7 1 (by unfold I64; omega) (by unfold I64; omega) (by unfold I64; omega) (by unfold I64; omega) (by unfold Gd; omega) (by unfold Gd; omega) (by omega) w)
  have h4 := fun w => Text_any 2 3 ⟨#[97, 98, 99, 100, 101]⟩ (by unfold I64; omega) (by unfold I64; omega) (by decide) w
  rw [show textV 2 3 ⟨#[97, 98, 99, 100, 101]⟩ = ⟨#[99, 100, 101]⟩ from by decide +kernel] at h4
  have H4 := Lib.hid h4
  clear h4
  go_enter Try.func15, Try.ntmps15
  go_wp2_with fail
  refine (H1.out _).mono ?_; rintro e w1 ⟨rfl, b1⟩
  go_wp2_with fail
  refine (H2.out _).mono ?_; rintro e w2 ⟨rfl, b2⟩
  go_wp2_with fail
  refine (H3.out _).mono ?_; rintro e w3 ⟨rfl, b3⟩
  obtain ⟨u1, u2, u3, u4, u5⟩ := (Two.mk.keep b3).alloc (.cells #[.int .i64 2, .int .i64 6] 26)
  have b4 := chain (chain b1 (Nat.le_refl _) b2) (Nat.le_refl _) (below2 b3)
  go_wp2_with fail
  refine (H4.out _).mono ?_; rintro e w5 ⟨rfl, b5⟩
  go_wp2_with fail
  go_ret
  exact ⟨retB (by decide +kernel), chain (b4.alloc b4.size _) (Nat.le_refl _) b5⟩

/-- Two rows of four 64-bit integers lie at block g. -/
def Eight (g : Nat) (z : Nat → Int) (w : World) : Prop := g < w.heap.size ∧ (∀ j, j < 8 → w.cell? ⟨g, j, none⟩ = some (.int .i64 (z j))) ∧ ∀ j, I64 (z j)
theorem Eight.keep {g : Nat} {z : Nat → Int} {w w' : World} (h : Eight g z w) (hb : Below w.heap.size w w') : Eight g z w' :=
  ⟨Nat.lt_of_lt_of_le h.1 hb.size, fun j hj => (hb.cell (show g < _ from h.1)).trans (h.2.1 j hj), h.2.2⟩
def eightOf (a b c d : Int) (j : Nat) : Int :=
  match j with
  | 0 => a | 1 => b | 2 => c | 3 => d
  | 4 => bits .and .i64 a 15 | 5 => bits .and .i64 b 15 | 6 => bits .and .i64 c 15 | 7 => bits .and .i64 d 15
  | _ => 0
theorem bits_I64 (a : Int) : I64 (bits .and .i64 a 15) := ⟨bits_lo_i64 _ _ _, bits_hi_i64 _ _ _⟩
theorem eight_in {a b c d : Int} (ha : I64 a) (hb : I64 b) (hc : I64 c) (hd : I64 d) (j : Nat) : I64 (eightOf a b c d j) := by
  unfold eightOf
  split
  · exact ha
  · exact hb
  · exact hc
  · exact hd
  · exact bits_I64 _
  · exact bits_I64 _
  · exact bits_I64 _
  · exact bits_I64 _
  · unfold I64; omega

/-- What 'some' hands back. -/
def SomePost (w : World) (e : Ending) (w' : World) : Prop := ∃ (g : Nat) (z : Nat → Int), e = .returned (.slice (some ⟨g, 0, none⟩) 2 2) ∧ w.heap.size ≤ g ∧ Eight g z w' ∧ Below w.heap.size w w'

theorem some_any (a b c d : Int) (ha : I64 a) (hb : I64 b) (hc : I64 c) (hd : I64 d) (w : World) : Calls Try.prog 7 #[.agg #[.int .i64 a, .int .i64 b, .int .i64 c, .int .i64 d]] w (SomePost w) := by
  go_enter Try.func7, Try.ntmps7
  go_wp2_with fail
  go_ret
  refine ⟨w.heap.size + 1, eightOf a b c d, rfl, past _ _, ⟨by simp, fun j hj => ?_, eight_in ha hb hc hd⟩, below_two _ _ _⟩
  have h := fun i => cell_of_row _ _ i _ _ (0, 0) (heap_alloc_new (w.alloc (.cells #[.int .i64 a, .int .i64 b, .int .i64 c, .int .i64 d] 22)) (.cells #[.int .i64 a, .int .i64 b, .int .i64 c, .int .i64 d, .int .i64 (bits .and .i64 a 15), .int .i64 (bits .and .i64 b 15), .int .i64 (bits .and .i64 c 15), .int .i64 (bits .and .i64 d 15)] 22))
  simp only [World.size_alloc] at h
  rw [h]
  match j, hj with
  | 0, _ => rfl
  | 1, _ => rfl
  | 2, _ => rfl
  | 3, _ => rfl
  | 4, _ => rfl
  | 5, _ => rfl
  | 6, _ => rfl
  | 7, _ => rfl

end Go.Proofs.Ytokfhaflfaldnaa
