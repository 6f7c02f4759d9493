/- The law WordTurns: its walk. -/
import Derived.Test.YtejcpckkpgkgcaaWordC
import Derived.Handy
namespace Go.Proofs.Ytejcpckkpgkgcaa
open Go.ChangeShapes Go.WideShapes Go.ChangeAt Go.RowKit
set_option linter.unusedVariables false

theorem Op_at (s : ByteArray) (a b x e : Int) (ha : W64 a) (hb : W64 b) (h : opR s.toList a b = (x, e)) (w : World) :
    Calls Try.prog 9 #[.string s, .int .u64 a, .int .u64 b] w fun r w' => r = .returned (.tuple #[.int .u64 x, .int .i64 e]) ∧ w = w' := by
  have c := Op_any s a b ha hb w
  rw [h] at c
  exact c

/-- The operators whose operands may be exchanged. -/
def comms : List ByteArray := [⟨#[43]⟩, ⟨#[42]⟩, ⟨#[38]⟩, ⟨#[124]⟩, ⟨#[61, 61]⟩, ⟨#[33, 61]⟩, ⟨#[38, 38]⟩, ⟨#[124, 124]⟩]

theorem comm_plain (s : ByteArray) (hs : s ∈ comms) (a b : Int) : opR s.toList b a = opR s.toList a b := by
  unfold comms at hs
  simp only [List.mem_cons, List.not_mem_nil, or_false] at hs
  rcases hs with rfl | rfl | rfl | rfl | rfl | rfl | rfl | rfl
  all_goals simp [go_sem, opR]
  · simp [addR, Int.add_comm]
  · simp [mulR, Int.mul_comm]
  · simp [andV, Nat.and_comm]
  · simp [orV, Nat.or_comm]
  · rw [Bool.beq_comm]
  · rw [bne_comm]
  · rw [Bool.and_comm]
  · rw [Bool.or_comm]

theorem Op_comm (s : ByteArray) (hs : s ∈ comms) (a b : Int) (ha : W64 a) (hb : W64 b) (w : World) :
    Calls Try.prog 9 #[.string s, .int .u64 b, .int .u64 a] w fun r w' => r = pairOf (opR s.toList a b) ∧ w = w' := by
  rw [← comm_plain s hs]
  exact Op_any s b a hb ha w

/-- What the six comparisons return. -/
theorem cmps (a b : Int) (ha : W64 a) (hb : W64 b) : ∃ p q r : Int, ((p = 0 ∨ p = 1) ∧ (q = 0 ∨ q = 1) ∧ (r = 0 ∨ r = 1)) ∧
    (∃ _ : Hid (∀ w, Calls Try.prog 9 #[.string ⟨#[61, 61]⟩, .int .u64 a, .int .u64 b] w fun e w' => e = .returned (.tuple #[.int .u64 p, .int .i64 0]) ∧ w = w'),
      Hid (∀ w, Calls Try.prog 9 #[.string ⟨#[33, 61]⟩, .int .u64 a, .int .u64 b] w fun e w' => e = .returned (.tuple #[.int .u64 (1 - p), .int .i64 0]) ∧ w = w')) ∧
    (∃ _ : Hid (∀ w, Calls Try.prog 9 #[.string ⟨#[60]⟩, .int .u64 a, .int .u64 b] w fun e w' => e = .returned (.tuple #[.int .u64 q, .int .i64 0]) ∧ w = w'),
      Hid (∀ w, Calls Try.prog 9 #[.string ⟨#[62, 61]⟩, .int .u64 a, .int .u64 b] w fun e w' => e = .returned (.tuple #[.int .u64 (1 - q), .int .i64 0]) ∧ w = w')) ∧
    (∃ _ : Hid (∀ w, Calls Try.prog 9 #[.string ⟨#[62]⟩, .int .u64 a, .int .u64 b] w fun e w' => e = .returned (.tuple #[.int .u64 r, .int .i64 0]) ∧ w = w'),
      Hid (∀ w, Calls Try.prog 9 #[.string ⟨#[60, 61]⟩, .int .u64 a, .int .u64 b] w fun e w' => e = .returned (.tuple #[.int .u64 (1 - r), .int .i64 0]) ∧ w = w')) := by
  refine ⟨if a = b then 1 else 0, if a < b then 1 else 0, if b < a then 1 else 0, ⟨by omega, by omega, by omega⟩,
    ⟨Lib.hid (Op_at _ a b _ _ ha hb ?_), Lib.hid (Op_at _ a b _ _ ha hb ?_)⟩, ⟨Lib.hid (Op_at _ a b _ _ ha hb ?_), Lib.hid (Op_at _ a b _ _ ha hb ?_)⟩, ⟨Lib.hid (Op_at _ a b _ _ ha hb ?_), Lib.hid (Op_at _ a b _ _ ha hb ?_)⟩⟩
  all_goals simp [go_sem, opR, truthV]
  all_goals (repeat' split) <;> omega

set_option maxHeartbeats 2000000 in
theorem WordTurns_walk (a0 : Int) (a1 : Int) (w0 : (Lit.int .u64 a0).wf = true) (w1 : (Lit.int .u64 a1).wf = true) (w : World) :
    Calls Try.prog 8 #[.int .u64 a0, .int .u64 a1] w fun e w' => e = .returned (.bool true) ∧ Grown w w' := by
  have ha : W64 a0 := bounds_u64 w0
  have hb : W64 a1 := bounds_u64 w1
  have HW := Lib.hid wakes_any
  have T := Lib.hid (fun s hs w => Op_comm s hs a0 a1 ha hb w)
  go_enter Try.func8, Try.ntmps8
  go_wp2_with fail
  refine wp_loop_rounds 9 ?_
  repeat any_goals (rw [rounds_succ]; go_wp2_with (first | ((with_reducible refine (Op_any _ a0 a1 ha hb _).mono ?_); rintro e w' ⟨rfl, rfl⟩) | ((with_reducible refine (T.out _ (by simp [comms]) _).mono ?_); rintro e w' ⟨rfl, rfl⟩)))
  obtain ⟨p, q, r, ⟨hp, hq, hr⟩, ⟨C1, C2⟩, ⟨C3, C4⟩, ⟨C5, C6⟩⟩ := cmps a0 a1 ha hb
  clear T
  rcases hp with rfl | rfl
  all_goals rcases hq with rfl | rfl
  all_goals rcases hr with rfl | rfl
  all_goals refine wp_loop_rounds 4 ?_
  all_goals repeat any_goals (rw [rounds_succ]; go_wp2_with (first | ((with_reducible refine (C1.out _).mono ?_); rintro e w' ⟨rfl, rfl⟩) | ((with_reducible refine (C2.out _).mono ?_); rintro e w' ⟨rfl, rfl⟩) | ((with_reducible refine (C3.out _).mono ?_); rintro e w' ⟨rfl, rfl⟩) | ((with_reducible refine (C4.out _).mono ?_); rintro e w' ⟨rfl, rfl⟩) | ((with_reducible refine (C5.out _).mono ?_); rintro e w' ⟨rfl, rfl⟩) | ((with_reducible refine (C6.out _).mono ?_); rintro e w' ⟨rfl, rfl⟩) | ((with_reducible refine (HW.out _).mono ?_); rintro e w' ⟨rfl, rfl⟩)))
  all_goals go_ret
  all_goals exact ⟨rfl, by go_grown⟩

end Go.Proofs.Ytejcpckkpgkgcaa
