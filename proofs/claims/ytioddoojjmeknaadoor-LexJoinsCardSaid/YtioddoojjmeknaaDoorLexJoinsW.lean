/- The walk of the law LexJoins. -/
import Derived.Test.YtioddoojjmeknaaDoorLexO
import Derived.Test.YtioddoojjmeknaaDoorLexR
import Derived.Deep.QuietTactic
namespace Go.Proofs.YtioddoojjmeknaaDoor
open Go.ChangeShapes Go.WideShapes Go.ChangeAt Go.RowKit
set_option linter.unusedVariables false

set_option maxHeartbeats 4000000 in
set_option maxRecDepth 100000 in
theorem LexJoins_walk (s nm : ByteArray) (w : World) (ws : s.size ≤ maxLen) (wn : nm.size ≤ reachBytes) (hE : Env w) :
    Calls Tryd.prog 4 #[.string s, .string nm] w fun e w' => e = .returned (.bool true) ∧ Below w.heap.size w w' := by
  obtain ⟨p, q, f, l, hL, hR, -, -, hlen, hsum, hne⟩ := lex_pair s
  have hj := join_len l
  have hjr := joinR_eq hne
  have hnm : nm.size ≤ 140737488355328 := by unfold reachBytes at wn; omega
  have hmem : ∀ t ∈ l, t.tk.t.length ≤ 1000000 := fun t ht => by have := sumL_mem l t ht; omega
  have J1 := Lib.hid fun a c w h => Join_any a c l w h (by omega) (by omega)
  have J2 := Lib.hid fun a c w h => refJoin_any a c l w h (by omega) hmem
  rw [hjr] at J2
  have N1 := Lib.hid fun w hE => Name_any nm hnm w hE
  have N2 := Lib.hid fun w => refName_any nm hnm w
  have HL := Lib.hid hL
  have HR := Lib.hid hR
  have HE := Lib.hid hE
  have HW := Lib.hid fun w hE => wakes_any w hE
  clear hL hR hE hj hjr hnm hmem hne
  generalize joinL l = J at J1 J2
  generalize nameL nm.data.toList = B at N1 N2
  go_enter Tryd.func4, Tryd.ntmps4
  go_wp2_with (first
    | (go_at_call 8; go_must (refine (HL.out _ HE.out).mono ?_; rintro e w1 ⟨a, c, rfl, hS1, hb1⟩; have S1 := Lib.hid hS1; have B1 := Lib.hid hb1; have E1 := Lib.hid (HE.out.below hb1); clear hS1 hb1))
    | (go_at_call 9; go_must (refine (HR.out _).mono ?_; rintro e w2 ⟨a', c', rfl, hS2, hb2⟩; have S2 := Lib.hid hS2; have T2 := Lib.hid ((S1.out.below (below_box w1 (.cells #[.int .i64 p, .int .i64 q] 24))).below hb2); have B2 := Lib.hid (chain (chain B1.out (Nat.le_refl _) (below_box w1 (.cells #[.int .i64 p, .int .i64 q] 24))) (Nat.le_refl _) hb2); have E2 := Lib.hid ((E1.out.below (below_box w1 (.cells #[.int .i64 p, .int .i64 q] 24))).below hb2); clear hS2 hb2))
    | (go_at_call 10; go_must (refine (HW.out _ (E2.out.below (below_box w2 (.cells #[.int .i64 p, .int .i64 q] 29)))).mono ?_; rintro e w3 ⟨rfl, hb3⟩; have S3 := Lib.hid ((S2.out.below (below_box w2 (.cells #[.int .i64 p, .int .i64 q] 29))).below hb3); have T3 := Lib.hid ((T2.out.below (below_box w2 (.cells #[.int .i64 p, .int .i64 q] 29))).below hb3); have B3 := Lib.hid (chain (chain B2.out (Nat.le_refl _) (below_box w2 (.cells #[.int .i64 p, .int .i64 q] 29))) (Nat.le_refl _) hb3); have E3 := Lib.hid ((E2.out.below (below_box w2 (.cells #[.int .i64 p, .int .i64 q] 29))).below hb3); clear hb3))
    | (go_at_call 11; go_must (refine (N1.out _ E3.out).mono ?_; rintro e w4 ⟨rfl, hb4⟩; have S4 := Lib.hid (S3.out.below hb4); have T4 := Lib.hid (T3.out.below hb4); have B4 := Lib.hid (chain B3.out (Nat.le_refl _) hb4); have E4 := Lib.hid (E3.out.below hb4); clear hb4))
    | (go_at_call 12; go_must (refine (N2.out _).mono ?_; rintro e w5 ⟨rfl, rfl⟩))
    | (go_at_call 13; go_must (refine (J1.out _ _ _ T4.out).mono ?_; rintro e w6 ⟨rfl, hb6⟩; have S6 := Lib.hid (S4.out.below hb6); have B6 := Lib.hid (chain B4.out (Nat.le_refl _) hb6); clear hb6))
    | (go_at_call 14; go_must (refine (J2.out _ _ _ S6.out).mono ?_; rintro e w7 ⟨rfl, rfl⟩)))
  all_goals go_ret
  exact ⟨rfl, B6.out⟩
end Go.Proofs.YtioddoojjmeknaaDoor
