/- The walk of the law LexReads. -/
import Derived.Test.YtioddoojjmeknaaDoorLexO
import Derived.Deep.QuietTactic
namespace Go.Proofs.YtioddoojjmeknaaDoor
open Go.ChangeShapes Go.WideShapes Go.ChangeAt Go.RowKit
set_option linter.unusedVariables false

set_option maxHeartbeats 4000000 in
set_option maxRecDepth 100000 in
theorem LexReads_walk (s : ByteArray) (w : World) (ws : s.size ≤ maxLen) (hE : Env w) :
    Calls Tryd.prog 3 #[.string s] w fun e w' => e = .returned (.bool true) ∧ Below w.heap.size w w' := by
  obtain ⟨p, q, f, l, hL, hR, -, -, hlen, -⟩ := lex_pair s
  have HL := Lib.hid hL
  have HR := Lib.hid hR
  have HE := Lib.hid hE
  have HW := Lib.hid fun w hE => wakes_any w hE
  clear hL hR hE
  go_enter Tryd.func3, Tryd.ntmps3
  go_upto_region 3 with (first | (go_at_call 8; go_must (refine (HL.out _ HE.out).mono ?_; rintro e w1 ⟨a, c, rfl, hS1, hb1⟩; have S1 := Lib.hid hS1; have B1 := Lib.hid hb1; clear hS1 hb1)) | (go_at_call 9; go_must (refine (HR.out _).mono ?_; rintro e w2 ⟨a', c', rfl, hS2, hb2⟩; have S2 := Lib.hid hS2; have B2 := Lib.hid hb2; clear hS2 hb2)))
  have P1 := (Two.new w1 p q 24).keep B2.out
  have S1' := (S1.out.below (below_box w1 (.cells #[.int .i64 p, .int .i64 q] 24))).below B2.out
  have E2 := HE.out.below (chain (chain B1.out (Nat.le_refl _) (below_box w1 (.cells #[.int .i64 p, .int .i64 q] 24))) (Nat.le_refl _) B2.out)
  have BB := chain (chain (chain B1.out (Nat.le_refl _) (below_box w1 (.cells #[.int .i64 p, .int .i64 q] 24))) (Nat.le_refl _) B2.out) (Nat.le_refl _) (below_box w2 (.cells #[.int .i64 p, .int .i64 q] 29))
  have Q1 := Two.new w2 p q 29
  have P2 := P1.keep (below_box w2 (.cells #[.int .i64 p, .int .i64 q] 29))
  have S3 := S1'.below (below_box w2 (.cells #[.int .i64 p, .int .i64 q] 29))
  have S4 := S2.out.below (below_box w2 (.cells #[.int .i64 p, .int .i64 q] 29))
  have E3 := Lib.hid (E2.below (below_box w2 (.cells #[.int .i64 p, .int .i64 q] 29)))
  clear S1 S2 B1 B2 P1 S1' E2
  generalize w2.alloc (.cells #[.int .i64 p, .int .i64 q] 29) = W at P2 Q1 S3 S4 E3 BB ⊢
  generalize w1.heap.size = g1 at P2 ⊢
  generalize w2.heap.size = g2 at Q1 ⊢
  have P2 := Lib.hid P2
  have Q1 := Lib.hid Q1
  have S3 := Lib.hid S3
  have S4 := Lib.hid S4
  have BB := Lib.hid BB
  go_wp2_with (go_at_call 10; go_must (refine (HW.out _ E3.out).mono ?_; rintro e w3 ⟨rfl, hb3⟩; obtain ⟨c0, c1, z0⟩ := (P2.out.keep hb3).cells; obtain ⟨d0, d1, z1⟩ := (Q1.out.keep hb3).cells; have T3 := Lib.hid (S3.out.below hb3); have T4 := Lib.hid (S4.out.below hb3); have B3 := Lib.hid (chain BB.out (Nat.le_refl _) hb3)))
  clear c0 c1 z0 d0 d1 z1 P2 Q1 S3 S4 BB hb3
  go_loopw [48] (fun s48 wr => ∃ k : Nat, s48 = .int .i64 k ∧ k ≤ l.length ∧ TkS wr a l ∧ TkS wr a' l ∧ Below w.heap.size w wr) (fun s48 _ => l.length - (intOf s48).toNat)
  case atStart => exact ⟨0, rfl, by omega, T3.out, T4.out, B3.out⟩
  case round =>
    obtain ⟨k, rfl, hk, hS, hS', hb⟩ := hrel
    have S := Lib.hid hS
    have S' := Lib.hid hS'
    have B := Lib.hid hb
    clear hS hS' hb T3 T4 B3
    by_cases hlt : k < l.length
    · obtain ⟨t, ht⟩ : ∃ t, l[k]? = some t := ⟨_, List.getElem?_eq_getElem hlt⟩
      obtain ⟨g, rfl, hg, c0, c1, c2, c3, c4⟩ := S.out k t ht
      obtain ⟨g', rfl, hg', -⟩ := S'.out k t ht
      have S5 := S'.out.below (below_box wr (.cells #[.int .i64 t.tk.k, .string (bs t.tk.t), .int .u64 t.tk.n, .int .i64 t.p.1, .int .i64 t.p.2] 36))
      obtain ⟨_, e0, hg2, d0, d1, d2, d3, d4⟩ := S5 k t ht
      cases e0
      have S6 := Lib.hid (S.out.below (below_box wr (.cells #[.int .i64 t.tk.k, .string (bs t.tk.t), .int .u64 t.tk.n, .int .i64 t.p.1, .int .i64 t.p.2] 36)))
      have S7 := Lib.hid S5
      have B2 := Lib.hid (chain B.out (Nat.le_refl _) (below_box wr (.cells #[.int .i64 t.tk.k, .string (bs t.tk.t), .int .u64 t.tk.n, .int .i64 t.p.1, .int .i64 t.p.2] 36)))
      clear ht S5 S S' B
      obtain ⟨⟨kk, tt, nn⟩, ⟨x, y⟩⟩ := t
      simp only at c0 c1 c2 c3 c4 d0 d1 d2 d3 d4 S6 S7 B2
      go_wp2_with fail
      first
        | go_quiet (fail)
        | go_region
      all_goals go_wp2_with fail
      refine ⟨⟨k + 1, by go_num, by omega, S6.out.below (below_drewN _ _ _), S7.out.below (below_drewN _ _ _), chain B2.out (Nat.le_refl _) (below_drewN _ _ _)⟩, ?_⟩
      simp [intOf]; omega
    · obtain rfl : k = l.length := by omega
      go_wp2_with fail
      go_ret
      exact ⟨rfl, B.out⟩
end Go.Proofs.YtioddoojjmeknaaDoor
