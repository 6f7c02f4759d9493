/- The walk of the law LexLines. -/
import Derived.Test.YtioddoojjmeknaaDoorLexO
import Derived.Test.YtioddoojjmeknaaDoorLexV
import Derived.Deep.QuietTactic
import Derived.Deep.RegionWith
namespace Go.Proofs.YtioddoojjmeknaaDoor
open Go.ChangeShapes Go.WideShapes Go.ChangeAt Go.RowKit
set_option linter.unusedVariables false

theorem lex_got {s : ByteArray} {r : LR} (h : lexL s.data.toList = r) (w : World) (hE : Env w) :
    Calls Tryd.prog 8 #[.string s] w fun e w' => ∃ a c, e = .returned (.tuple #[.slice a r.toks.length c, .agg #[.int .i64 r.pos.1, .int .i64 r.pos.2], .int .i64 r.err]) ∧ TkS w' a r.toks ∧ Below w.heap.size w w' := by
  subst h
  refine (Lex_any s w hE).mono ?_
  rintro e w' ⟨v, rfl, hT, hb⟩
  obtain ⟨a, c, rfl⟩ := hT.shape
  exact ⟨a, c, rfl, hT.rd, hb⟩
theorem line_any (s : ByteArray) (hs : s.size ≤ 100) (w : World) (hE : Env w) :
    Calls Tryd.prog 15 #[.string s, .string ⟨#[10]⟩] w fun e w' => ∃ (x y : ByteArray) (f : Bool), e = .returned (.tuple #[.string x, .string y, .bool f]) ∧ x.data.toList.count 10 = 0 ∧ x.size ≤ 100 ∧ Below w.heap.size w w' := by
  obtain ⟨m, hm⟩ := hE.maxLen
  refine (Tryd.strings_Cut s ⟨#[10]⟩ m w (by omega) hm).mono ?_
  rintro e w' ⟨rfl, n, rfl⟩
  obtain ⟨h1, h2⟩ := cut_line s.data.toList
  rw [← size_list] at h2
  refine ⟨_, _, _, rfl, h1, ?_, below_drewN _ _ n⟩
  show (Lib.cut s.data.toList [10]).1.length ≤ 100
  omega
theorem extract_le (s : ByteArray) (m : Nat) : (s.extract 0 m).size ≤ m := by rw [ByteArray.size_extract]; omega
set_option maxHeartbeats 4000000 in
set_option maxRecDepth 100000 in
theorem LexLines_walk (s0 t0 n0 : ByteArray) (w : World) (ws : s0.size ≤ maxLen) (wt : t0.size ≤ maxLen) (wn : n0.size ≤ maxLen) (hE : Env w) :
    Calls Tryd.prog 6 #[.string s0, .string t0, .string n0] w fun e w' => e = .returned (.bool true) ∧ Below w.heap.size w w' := by
  obtain ⟨s, hs⟩ : ∃ s, s0.extract 0 (min (s0.size : Int) 3000).toNat = s := ⟨_, rfl⟩
  obtain ⟨t, ht⟩ : ∃ t, t0.extract 0 (min (t0.size : Int) 3000).toNat = t := ⟨_, rfl⟩
  obtain ⟨n, hn⟩ : ∃ n, n0.extract 0 (min (n0.size : Int) 100).toNat = n := ⟨_, rfl⟩
  have zs : s.size ≤ 3000 := by have := extract_le s0 (min (s0.size : Int) 3000).toNat; rw [hs] at this; omega
  have zt : t.size ≤ 3000 := by have := extract_le t0 (min (t0.size : Int) 3000).toNat; rw [ht] at this; omega
  have zn : n.size ≤ 100 := by have := extract_le n0 (min (n0.size : Int) 100).toNat; rw [hn] at this; omega
  have LN := Lib.hid fun w hE => line_any n zn w hE
  have HE := Lib.hid (hE.below (Below.refl _ w).drew)
  have HW := Lib.hid fun w hE => wakes_any w hE
  clear hE
  go_enter Tryd.func6, Tryd.ntmps6
  go_wp2_with fail
  go_region
  go_wp2_with (go_at_call 15; go_must (refine (LN.out _ HE.out).mono ?_; rintro e w1 ⟨x, y, f, rfl, hx, hxs, hb1⟩; have B1 := Lib.hid (chain (Below.refl _ w).drew (Nat.le_refl _) hb1); have E1 := Lib.hid (HE.out.below hb1); clear hb1))
  clear ws wt wn HE LN zn
  obtain ⟨Z, hZ⟩ : ∃ Z, s ++ (⟨#[47, 47]⟩ : ByteArray) ++ x ++ (⟨#[10]⟩ : ByteArray) ++ t = Z := ⟨_, rfl⟩
  have hZl : Z.data.toList = s.data.toList ++ [47, 47] ++ x.data.toList ++ [10] ++ t.data.toList := by rw [← hZ, append_list, append_list, append_list, append_list]
  have i1 : ¬ 9223372036854775807 < s.size + 2 := by omega
  have i2 : ¬ 9223372036854775807 < s.size + 2 + x.size := by omega
  have i3 : ¬ 9223372036854775807 < s.size + 2 + x.size + 1 := by omega
  have i4 : ¬ 9223372036854775807 < s.size + 2 + x.size + 1 + t.size := by omega
  have HS := Lib.hid fun w => Tryd.strings_HasSuffix s ⟨#[47]⟩ w (by omega)
  have HC := Lib.hid fun w => Tryd.strings_Count_one s 10 w
  have hsl := size_list s
  have htl := size_list t
  have hxl := size_list x
  have two := fun ts h hl => lexL_two (s := s.data.toList) (t := t.data.toList) (n := x.data.toList) (ts := ts) (by omega) (by omega) (by omega) hx h hl
  rw [← hZl] at two
  clear hsl htl hxl
  cases h1 : lexL s.data.toList with
  | bad P e =>
    have hbad := (lexL_bad_at h1).2
    have A1 := Lib.hid fun w hE => lex_got (s := s) (r := .bad P e) h1 w hE
    have A2 := Lib.hid fun w hE => lex_got (s := t) (r := lexL t.data.toList) rfl w hE
    have A3 := Lib.hid fun w hE => lex_got (s := Z) (r := lexL Z.data.toList) rfl w hE
    generalize lexL t.data.toList = r2 at A2
    generalize lexL Z.data.toList = r3 at A3
    obtain ⟨P1, P2⟩ := P
    simp only [LR.toks, LR.pos, LR.err, List.length_nil] at A1
    have he : ((e : Int) == 0) = false := by rw [beq_eq_false_iff_ne]; omega
    clear two h1 hbad HS HC hZl hx hxs
    go_wp2_with (go_at_call_of 8 s; go_must (refine (A1.out _ E1.out).mono ?_; rintro e w2 ⟨a, c1, rfl, hS, hb⟩; have B2 := Lib.hid (chain B1.out (Nat.le_refl _) hb); have E2 := Lib.hid (E1.out.below hb); have S2 := Lib.hid hS; clear hS hb))
    go_wp2_with (go_at_call_of 8 t; go_must (refine (A2.out _ (E2.out.below (below_box w2 (.cells #[.int .i64 P1, .int .i64 P2] 24)))).mono ?_; rintro e w3 ⟨a', c2, rfl, hS, hb⟩; have B3 := Lib.hid (chain (chain B2.out (Nat.le_refl _) (below_box w2 (.cells #[.int .i64 P1, .int .i64 P2] 24))) (Nat.le_refl _) hb); have E3 := Lib.hid ((E2.out.below (below_box w2 (.cells #[.int .i64 P1, .int .i64 P2] 24))).below hb); have S3 := Lib.hid ((S2.out.below (below_box w2 (.cells #[.int .i64 P1, .int .i64 P2] 24))).below hb); have T3 := Lib.hid hS; clear hS hb))
    go_wp2_with (go_at_call_of 8 Z; go_must (refine (A3.out _ (E3.out.below (below_box w3 (.cells #[.int .i64 r2.pos.1, .int .i64 r2.pos.2] 24)))).mono ?_; rintro e w4 ⟨a'', c3, rfl, hS, hb⟩; have B4 := Lib.hid (chain (chain B3.out (Nat.le_refl _) (below_box w3 (.cells #[.int .i64 r2.pos.1, .int .i64 r2.pos.2] 24))) (Nat.le_refl _) hb); have E4 := Lib.hid ((E3.out.below (below_box w3 (.cells #[.int .i64 r2.pos.1, .int .i64 r2.pos.2] 24))).below hb); have S4 := Lib.hid ((S3.out.below (below_box w3 (.cells #[.int .i64 r2.pos.1, .int .i64 r2.pos.2] 24))).below hb); have T4 := Lib.hid ((T3.out.below (below_box w3 (.cells #[.int .i64 r2.pos.1, .int .i64 r2.pos.2] 24))).below hb); have U4 := Lib.hid hS; have K4 := Lib.hid ((Two.new w3 r2.pos.1 r2.pos.2 24).keep hb); clear hS hb))
    go_wp2_with (first | (go_at_call 10; have q := E5; clear q; go_must (refine (HW.out _ E5.out).mono ?_; rintro e w6 ⟨rfl, hb⟩; have B6 := Lib.hid (chain B5.out (Nat.le_refl _) hb); clear hb)) | (go_at_call 10; go_must (refine (HW.out _ (E4.out.below (below_box w4 (.cells #[.int .i64 r3.pos.1, .int .i64 r3.pos.2] 24)))).mono ?_; rintro e w5 ⟨rfl, hb⟩; have B5 := Lib.hid (chain (chain B4.out (Nat.le_refl _) (below_box w4 (.cells #[.int .i64 r3.pos.1, .int .i64 r3.pos.2] 24))) (Nat.le_refl _) hb); have E5 := Lib.hid ((E4.out.below (below_box w4 (.cells #[.int .i64 r3.pos.1, .int .i64 r3.pos.2] 24))).below hb); have S5 := Lib.hid ((S4.out.below (below_box w4 (.cells #[.int .i64 r3.pos.1, .int .i64 r3.pos.2] 24))).below hb); have T5 := Lib.hid ((T4.out.below (below_box w4 (.cells #[.int .i64 r3.pos.1, .int .i64 r3.pos.2] 24))).below hb); have U5 := Lib.hid ((U4.out.below (below_box w4 (.cells #[.int .i64 r3.pos.1, .int .i64 r3.pos.2] 24))).below hb); have K5 := Lib.hid ((K4.out.keep (below_box w4 (.cells #[.int .i64 r3.pos.1, .int .i64 r3.pos.2] 24))).keep hb); have M5 := Lib.hid ((Two.new w4 r3.pos.1 r3.pos.2 24).keep hb); clear hb)))
    go_ret
    exact ⟨rfl, B6.out⟩
  | ok ts =>
    have A1 := Lib.hid fun w hE => lex_got (s := s) (r := .ok ts) h1 w hE
    simp only [LR.toks, LR.pos, LR.err] at A1
    have hN : Lib.countByte s.data.toList 10 ≤ 3000 := Nat.le_trans List.count_le_length (by rw [← size_list]; exact zs)
    have hl1 := (lexL_all h1).1
    cases hsx : Lib.hasSuffix s.data.toList [47] with
    | true =>
      have HS := Lib.hid fun w => HS.out w
      rw [show (⟨#[47]⟩ : ByteArray).data.toList = [47] from rfl, hsx] at HS
      have A2 := Lib.hid fun w hE => lex_got (s := t) (r := lexL t.data.toList) rfl w hE
      have A3 := Lib.hid fun w hE => lex_got (s := Z) (r := lexL Z.data.toList) rfl w hE
      generalize lexL t.data.toList = r2 at A2
      generalize lexL Z.data.toList = r3 at A3
      generalize Lib.countByte s.data.toList 10 = N at HC hN
      clear two h1 hsx hZl hx hxs
      go_wp2_with (go_at_call_of 8 s; go_must (refine (A1.out _ E1.out).mono ?_; rintro e w2 ⟨a, c1, rfl, hS, hb⟩; have B2 := Lib.hid (chain B1.out (Nat.le_refl _) hb); have E2 := Lib.hid (E1.out.below hb); have S2 := Lib.hid hS; clear hS hb))
      go_wp2_with (go_at_call_of 8 t; go_must (refine (A2.out _ (E2.out.below (below_box w2 (.cells #[.int .i64 0, .int .i64 0] 24)))).mono ?_; rintro e w3 ⟨a', c2, rfl, hS, hb⟩; have B3 := Lib.hid (chain (chain B2.out (Nat.le_refl _) (below_box w2 (.cells #[.int .i64 0, .int .i64 0] 24))) (Nat.le_refl _) hb); have E3 := Lib.hid ((E2.out.below (below_box w2 (.cells #[.int .i64 0, .int .i64 0] 24))).below hb); have S3 := Lib.hid ((S2.out.below (below_box w2 (.cells #[.int .i64 0, .int .i64 0] 24))).below hb); have T3 := Lib.hid hS; clear hS hb))
      go_wp2_with (go_at_call_of 8 Z; go_must (refine (A3.out _ (E3.out.below (below_box w3 (.cells #[.int .i64 r2.pos.1, .int .i64 r2.pos.2] 24)))).mono ?_; rintro e w4 ⟨a'', c3, rfl, hS, hb⟩; have B4 := Lib.hid (chain (chain B3.out (Nat.le_refl _) (below_box w3 (.cells #[.int .i64 r2.pos.1, .int .i64 r2.pos.2] 24))) (Nat.le_refl _) hb); have E4 := Lib.hid ((E3.out.below (below_box w3 (.cells #[.int .i64 r2.pos.1, .int .i64 r2.pos.2] 24))).below hb); have S4 := Lib.hid ((S3.out.below (below_box w3 (.cells #[.int .i64 r2.pos.1, .int .i64 r2.pos.2] 24))).below hb); have T4 := Lib.hid ((T3.out.below (below_box w3 (.cells #[.int .i64 r2.pos.1, .int .i64 r2.pos.2] 24))).below hb); have U4 := Lib.hid hS; have K4 := Lib.hid ((Two.new w3 r2.pos.1 r2.pos.2 24).keep hb); clear hS hb))
      go_wp2_with (first | (go_at_call 16; go_must (refine (HC.out _).mono ?_; rintro e w6 ⟨rfl, rfl⟩)) | (go_at_call 17; go_must (refine (HS.out _).mono ?_; rintro e w7 ⟨rfl, rfl⟩)) | (go_at_call 10; go_must (refine (HW.out _ (E4.out.below (below_box w4 (.cells #[.int .i64 r3.pos.1, .int .i64 r3.pos.2] 24)))).mono ?_; rintro e w5 ⟨rfl, hb⟩; have B5 := Lib.hid (chain (chain B4.out (Nat.le_refl _) (below_box w4 (.cells #[.int .i64 r3.pos.1, .int .i64 r3.pos.2] 24))) (Nat.le_refl _) hb); have E5 := Lib.hid ((E4.out.below (below_box w4 (.cells #[.int .i64 r3.pos.1, .int .i64 r3.pos.2] 24))).below hb); have S5 := Lib.hid ((S4.out.below (below_box w4 (.cells #[.int .i64 r3.pos.1, .int .i64 r3.pos.2] 24))).below hb); have T5 := Lib.hid ((T4.out.below (below_box w4 (.cells #[.int .i64 r3.pos.1, .int .i64 r3.pos.2] 24))).below hb); have U5 := Lib.hid ((U4.out.below (below_box w4 (.cells #[.int .i64 r3.pos.1, .int .i64 r3.pos.2] 24))).below hb); have K5 := Lib.hid ((K4.out.keep (below_box w4 (.cells #[.int .i64 r3.pos.1, .int .i64 r3.pos.2] 24))).keep hb); have M5 := Lib.hid ((Two.new w4 r3.pos.1 r3.pos.2 24).keep hb); clear hb)))
      go_ret
      exact ⟨rfl, B5.out⟩
    | false =>
      have HS := Lib.hid fun w => HS.out w
      rw [show (⟨#[47]⟩ : ByteArray).data.toList = [47] from rfl, hsx] at HS
      obtain ⟨init, q0, hts, h3⟩ := two ts h1 (no_slash hsx)
      have hNc : 1 + s.data.toList.count 10 = 1 + Lib.countByte s.data.toList 10 := rfl
      rw [hNc] at h3
      generalize Lib.countByte s.data.toList 10 = N at HC hN h3
      clear hNc two h1 hsx hZl hx hxs
      cases h2 : lexL t.data.toList with
      | bad Q f2 =>
        obtain ⟨hQ, hf⟩ := lexL_bad_at h2
        rw [← size_list] at hQ
        rw [h2] at h3
        have h3' : lexL Z.data.toList = .bad (Q.1 + (1 + N), Q.2) f2 := h3
        have A2 := Lib.hid fun w hE => lex_got (s := t) (r := .bad Q f2) h2 w hE
        have A3 := Lib.hid fun w hE => lex_got (s := Z) (r := .bad (Q.1 + (1 + N), Q.2) f2) h3' w hE
        obtain ⟨Q1, Q2⟩ := Q
        simp only [LR.toks, LR.pos, LR.err, List.length_nil] at A2 A3 hQ
        have hf0 : ((f2 : Int) == 0) = false := by rw [beq_eq_false_iff_ne]; omega
        have hR : ((Q1 : Int) + (1 + (N : Int))) = ((Q1 + (1 + N) : Nat) : Int) := by omega
        generalize Q1 + (1 + N) = R1 at A3 hR
        clear h2 h3 h3' hf hts
        go_wp2_with (go_at_call_of 8 s; go_must (refine (A1.out _ E1.out).mono ?_; rintro e w2 ⟨a, c1, rfl, hS, hb⟩; have B2 := Lib.hid (chain B1.out (Nat.le_refl _) hb); have E2 := Lib.hid (E1.out.below hb); have S2 := Lib.hid hS; clear hS hb))
        go_wp2_with (go_at_call_of 8 t; go_must (refine (A2.out _ (E2.out.below (below_box w2 (.cells #[.int .i64 0, .int .i64 0] 24)))).mono ?_; rintro e w3 ⟨a', c2, rfl, hS, hb⟩; have B3 := Lib.hid (chain (chain B2.out (Nat.le_refl _) (below_box w2 (.cells #[.int .i64 0, .int .i64 0] 24))) (Nat.le_refl _) hb); have E3 := Lib.hid ((E2.out.below (below_box w2 (.cells #[.int .i64 0, .int .i64 0] 24))).below hb); have S3 := Lib.hid ((S2.out.below (below_box w2 (.cells #[.int .i64 0, .int .i64 0] 24))).below hb); have T3 := Lib.hid hS; clear hS hb))
        go_wp2_with (go_at_call_of 8 Z; go_must (refine (A3.out _ (E3.out.below (below_box w3 (.cells #[.int .i64 Q1, .int .i64 Q2] 24)))).mono ?_; rintro e w4 ⟨a'', c3, rfl, hS, hb⟩; have B4 := Lib.hid (chain (chain B3.out (Nat.le_refl _) (below_box w3 (.cells #[.int .i64 Q1, .int .i64 Q2] 24))) (Nat.le_refl _) hb); have E4 := Lib.hid ((E3.out.below (below_box w3 (.cells #[.int .i64 Q1, .int .i64 Q2] 24))).below hb); have S4 := Lib.hid ((S3.out.below (below_box w3 (.cells #[.int .i64 Q1, .int .i64 Q2] 24))).below hb); have T4 := Lib.hid ((T3.out.below (below_box w3 (.cells #[.int .i64 Q1, .int .i64 Q2] 24))).below hb); have U4 := Lib.hid hS; have K4 := Lib.hid ((Two.new w3 Q1 Q2 24).keep hb); clear hS hb))
        go_wp2_with (first | (go_at_call 16; go_must (refine (HC.out _).mono ?_; rintro e w6 ⟨rfl, rfl⟩)) | (go_at_call 17; go_must (refine (HS.out _).mono ?_; rintro e w7 ⟨rfl, rfl⟩)) | (go_at_call 10; go_must (refine (HW.out _ (E4.out.below (below_box w4 (.cells #[.int .i64 R1, .int .i64 Q2] 24)))).mono ?_; rintro e w5 ⟨rfl, hb⟩; have B5 := Lib.hid (chain (chain B4.out (Nat.le_refl _) (below_box w4 (.cells #[.int .i64 R1, .int .i64 Q2] 24))) (Nat.le_refl _) hb); have E5 := Lib.hid ((E4.out.below (below_box w4 (.cells #[.int .i64 R1, .int .i64 Q2] 24))).below hb); have S5 := Lib.hid ((S4.out.below (below_box w4 (.cells #[.int .i64 R1, .int .i64 Q2] 24))).below hb); have T5 := Lib.hid ((T4.out.below (below_box w4 (.cells #[.int .i64 R1, .int .i64 Q2] 24))).below hb); have U5 := Lib.hid ((U4.out.below (below_box w4 (.cells #[.int .i64 R1, .int .i64 Q2] 24))).below hb); have K5 := Lib.hid ((K4.out.keep (below_box w4 (.cells #[.int .i64 R1, .int .i64 Q2] 24))).keep hb); have M5 := Lib.hid ((Two.new w4 R1 Q2 24).keep hb); obtain ⟨k0, k1, k2⟩ := K5.out.cells; obtain ⟨m0, m1, m2⟩ := M5.out.cells; clear hb)))
        go_ret
        exact ⟨rfl, B5.out⟩
      | ok us =>
        have hl2 := (lexL_all h2).1
        have hat := lexL_ok_at h2
        rw [← size_list] at hat
        rw [h2] at h3
        obtain ⟨ns, hns⟩ : ∃ ns, init ++ us.map (shT (1 + N)) = ns := ⟨_, rfl⟩
        have h3' : lexL Z.data.toList = .ok ns := h3.trans (by rw [← hns]; rfl)
        have A2 := Lib.hid fun w hE => lex_got (s := t) (r := .ok us) h2 w hE
        have A3 := Lib.hid fun w hE => lex_got (s := Z) (r := .ok ns) h3' w hE
        simp only [LR.toks, LR.pos, LR.err] at A2 A3
        have lt : ts.length = init.length + 1 := by rw [hts]; simp
        have ln : ns.length = init.length + us.length := by rw [← hns]; simp
        have hcmp : ((ns.length : Int) == (ts.length : Int) + (us.length : Int) - 1) = true := by rw [beq_iff_eq]; omega
        have HT := Lib.hid hts
        have HNS := Lib.hid hns
        have HAT := Lib.hid hat
        clear h2 h3 h3' hts hns hat
        go_wp2_with (go_at_call_of 8 s; go_must (refine (A1.out _ E1.out).mono ?_; rintro e w2 ⟨a, c1, rfl, hS, hb⟩; have B2 := Lib.hid (chain B1.out (Nat.le_refl _) hb); have E2 := Lib.hid (E1.out.below hb); have S2 := Lib.hid hS; clear hS hb))
        go_wp2_with (go_at_call_of 8 t; go_must (refine (A2.out _ (E2.out.below (below_box w2 (.cells #[.int .i64 0, .int .i64 0] 24)))).mono ?_; rintro e w3 ⟨a', c2, rfl, hS, hb⟩; have B3 := Lib.hid (chain (chain B2.out (Nat.le_refl _) (below_box w2 (.cells #[.int .i64 0, .int .i64 0] 24))) (Nat.le_refl _) hb); have E3 := Lib.hid ((E2.out.below (below_box w2 (.cells #[.int .i64 0, .int .i64 0] 24))).below hb); have S3 := Lib.hid ((S2.out.below (below_box w2 (.cells #[.int .i64 0, .int .i64 0] 24))).below hb); have T3 := Lib.hid hS; clear hS hb))
        go_wp2_with (go_at_call_of 8 Z; go_must (refine (A3.out _ (E3.out.below (below_box w3 (.cells #[.int .i64 0, .int .i64 0] 24)))).mono ?_; rintro e w4 ⟨a'', c3, rfl, hS, hb⟩; have B4 := Lib.hid (chain (chain B3.out (Nat.le_refl _) (below_box w3 (.cells #[.int .i64 0, .int .i64 0] 24))) (Nat.le_refl _) hb); have E4 := Lib.hid ((E3.out.below (below_box w3 (.cells #[.int .i64 0, .int .i64 0] 24))).below hb); have S4 := Lib.hid ((S3.out.below (below_box w3 (.cells #[.int .i64 0, .int .i64 0] 24))).below hb); have T4 := Lib.hid ((T3.out.below (below_box w3 (.cells #[.int .i64 0, .int .i64 0] 24))).below hb); have U4 := Lib.hid hS; have K4 := Lib.hid ((Two.new w3 0 0 24).keep hb); clear hS hb))
        go_wp2_with (first | (go_at_call 16; go_must (refine (HC.out _).mono ?_; rintro e w6 ⟨rfl, rfl⟩)) | (go_at_call 17; go_must (refine (HS.out _).mono ?_; rintro e w7 ⟨rfl, rfl⟩)) | (go_at_call 10; go_must (refine (HW.out _ (E4.out.below (below_box w4 (.cells #[.int .i64 0, .int .i64 0] 24)))).mono ?_; rintro e w5 ⟨rfl, hb⟩; have B5 := Lib.hid (chain (chain B4.out (Nat.le_refl _) (below_box w4 (.cells #[.int .i64 0, .int .i64 0] 24))) (Nat.le_refl _) hb); have E5 := Lib.hid ((E4.out.below (below_box w4 (.cells #[.int .i64 0, .int .i64 0] 24))).below hb); have S5 := Lib.hid ((S4.out.below (below_box w4 (.cells #[.int .i64 0, .int .i64 0] 24))).below hb); have T5 := Lib.hid ((T4.out.below (below_box w4 (.cells #[.int .i64 0, .int .i64 0] 24))).below hb); have U5 := Lib.hid ((U4.out.below (below_box w4 (.cells #[.int .i64 0, .int .i64 0] 24))).below hb); have K5 := Lib.hid ((K4.out.keep (below_box w4 (.cells #[.int .i64 0, .int .i64 0] 24))).keep hb); have M5 := Lib.hid ((Two.new w4 0 0 24).keep hb); clear hb)))
        clear S2 S3 T3 S4 T4 U4 K4 K5 M5 B2 B3 B4 E2 E3 E4 hcmp A1 A2 A3 HC HS
        go_loopw [107] (fun s107 wr => ∃ k : Nat, s107 = .int .i64 k ∧ k ≤ ns.length ∧ TkS wr a ts ∧ TkS wr a' us ∧ TkS wr a'' ns ∧ Below w.heap.size w wr) (fun s107 _ => ns.length - (intOf s107).toNat)
        case atStart => exact ⟨0, rfl, by omega, S5.out, T5.out, U5.out, B5.out⟩
        case round =>
          obtain ⟨k, rfl, hk, hS, hT, hU, hb⟩ := hrel
          have S := Lib.hid hS
          have T := Lib.hid hT
          have U := Lib.hid hU
          have B := Lib.hid hb
          clear hS hT hU hb S5 T5 U5 B5
          by_cases hlt : k < ns.length
          · by_cases hi : k < init.length
            · obtain ⟨u, hu⟩ : ∃ u, init[k]? = some u := ⟨_, List.getElem?_eq_getElem hi⟩
              have u1 : ts[k]? = some u := by rw [HT.out, List.getElem?_append_left hi, hu]
              have u2 : ns[k]? = some u := by rw [← HNS.out, List.getElem?_append_left hi, hu]
              have hc : (k : Int) < (ts.length : Int) - 1 := by omega
              clear hu
              obtain ⟨⟨kk, tt, nn⟩, ⟨px, py⟩⟩ := u
              obtain ⟨g, rfl, hg, c0, c1, c2, c3, c4⟩ := U.out k _ u2
              obtain ⟨g', rfl, hg', d0, d1, d2, d3, d4⟩ := ((S.out.below (below_box wr (.cells #[.int .i64 kk, .string (bs tt), .int .u64 nn, .int .i64 px, .int .i64 py] 36))).below (below_box (wr.alloc (.cells #[.int .i64 kk, .string (bs tt), .int .u64 nn, .int .i64 px, .int .i64 py] 36)) (.cells #[.int .i64 0, .string ⟨#[]⟩, .int .u64 0, .int .i64 0, .int .i64 0] 36))) k _ u1
              simp only at c0 c1 c2 c3 c4 d0 d1 d2 d3 d4
              clear u1 u2
              go_wp2_with fail
              exact ⟨⟨k + 1, by go_num, by omega, ((S.out.below (below_box wr (.cells #[.int .i64 kk, .string (bs tt), .int .u64 nn, .int .i64 px, .int .i64 py] 36))).below (below_box (wr.alloc (.cells #[.int .i64 kk, .string (bs tt), .int .u64 nn, .int .i64 px, .int .i64 py] 36)) (.cells #[.int .i64 kk, .string (bs tt), .int .u64 nn, .int .i64 px, .int .i64 py] 36))), ((T.out.below (below_box wr (.cells #[.int .i64 kk, .string (bs tt), .int .u64 nn, .int .i64 px, .int .i64 py] 36))).below (below_box (wr.alloc (.cells #[.int .i64 kk, .string (bs tt), .int .u64 nn, .int .i64 px, .int .i64 py] 36)) (.cells #[.int .i64 kk, .string (bs tt), .int .u64 nn, .int .i64 px, .int .i64 py] 36))), ((U.out.below (below_box wr (.cells #[.int .i64 kk, .string (bs tt), .int .u64 nn, .int .i64 px, .int .i64 py] 36))).below (below_box (wr.alloc (.cells #[.int .i64 kk, .string (bs tt), .int .u64 nn, .int .i64 px, .int .i64 py] 36)) (.cells #[.int .i64 kk, .string (bs tt), .int .u64 nn, .int .i64 px, .int .i64 py] 36))), (chain (chain B.out (Nat.le_refl _) (below_box wr (.cells #[.int .i64 kk, .string (bs tt), .int .u64 nn, .int .i64 px, .int .i64 py] 36))) (Nat.le_refl _) (below_box (wr.alloc (.cells #[.int .i64 kk, .string (bs tt), .int .u64 nn, .int .i64 px, .int .i64 py] 36)) (.cells #[.int .i64 kk, .string (bs tt), .int .u64 nn, .int .i64 px, .int .i64 py] 36)))⟩, by simp [intOf]; omega⟩
            · obtain ⟨j, hj⟩ : ∃ j, k = init.length + j := ⟨k - init.length, by omega⟩
              have hju : j < us.length := by omega
              obtain ⟨v, hv⟩ : ∃ v, us[j]? = some v := ⟨_, List.getElem?_eq_getElem hju⟩
              have u2 : ns[k]? = some (shT (1 + N) v) := by rw [← HNS.out, List.getElem?_append_right (by omega), List.getElem?_map, show k - init.length = j from by omega, hv]; rfl
              have hvb := HAT.out v (List.mem_of_getElem? hv)
              have hc : ¬ (k : Int) < (ts.length : Int) - 1 := by omega
              have hjk : (k : Int) - ((init.length : Int) + 1) + 1 = (j : Int) := by omega
              obtain ⟨⟨kk, tt, nn⟩, ⟨qx, py⟩⟩ := v
              obtain ⟨px, hpx⟩ : ∃ px : Nat, qx + (1 + N) = px := ⟨_, rfl⟩
              have hR : (qx : Int) + (1 + (N : Int)) = (px : Int) := by omega
              have u3 : ns[k]? = some ⟨⟨kk, tt, nn⟩, (px, py)⟩ := by rw [u2, ← hpx]; rfl
              obtain ⟨g, rfl, hg, c0, c1, c2, c3, c4⟩ := U.out k _ u3
              obtain ⟨g', rfl, hg', d0, d1, d2, d3, d4⟩ := ((T.out.below (below_box wr (.cells #[.int .i64 kk, .string (bs tt), .int .u64 nn, .int .i64 px, .int .i64 py] 36))).below (below_box (wr.alloc (.cells #[.int .i64 kk, .string (bs tt), .int .u64 nn, .int .i64 px, .int .i64 py] 36)) (.cells #[.int .i64 0, .string ⟨#[]⟩, .int .u64 0, .int .i64 0, .int .i64 0] 36))) j _ hv
              simp only at c0 c1 c2 c3 c4 d0 d1 d2 d3 d4 hvb
              clear u2 u3 hv hpx hj
              go_wp2_with fail
              exact ⟨⟨k + 1, by go_num, by omega, ((S.out.below (below_box wr (.cells #[.int .i64 kk, .string (bs tt), .int .u64 nn, .int .i64 px, .int .i64 py] 36))).below (below_box (wr.alloc (.cells #[.int .i64 kk, .string (bs tt), .int .u64 nn, .int .i64 px, .int .i64 py] 36)) (.cells #[.int .i64 kk, .string (bs tt), .int .u64 nn, .int .i64 px, .int .i64 py] 36))), ((T.out.below (below_box wr (.cells #[.int .i64 kk, .string (bs tt), .int .u64 nn, .int .i64 px, .int .i64 py] 36))).below (below_box (wr.alloc (.cells #[.int .i64 kk, .string (bs tt), .int .u64 nn, .int .i64 px, .int .i64 py] 36)) (.cells #[.int .i64 kk, .string (bs tt), .int .u64 nn, .int .i64 px, .int .i64 py] 36))), ((U.out.below (below_box wr (.cells #[.int .i64 kk, .string (bs tt), .int .u64 nn, .int .i64 px, .int .i64 py] 36))).below (below_box (wr.alloc (.cells #[.int .i64 kk, .string (bs tt), .int .u64 nn, .int .i64 px, .int .i64 py] 36)) (.cells #[.int .i64 kk, .string (bs tt), .int .u64 nn, .int .i64 px, .int .i64 py] 36))), (chain (chain B.out (Nat.le_refl _) (below_box wr (.cells #[.int .i64 kk, .string (bs tt), .int .u64 nn, .int .i64 px, .int .i64 py] 36))) (Nat.le_refl _) (below_box (wr.alloc (.cells #[.int .i64 kk, .string (bs tt), .int .u64 nn, .int .i64 px, .int .i64 py] 36)) (.cells #[.int .i64 kk, .string (bs tt), .int .u64 nn, .int .i64 px, .int .i64 py] 36)))⟩, by simp [intOf]; omega⟩
          · obtain rfl : k = ns.length := by omega
            go_wp2_with fail
            go_ret
            exact ⟨rfl, B.out⟩
end Go.Proofs.YtioddoojjmeknaaDoor
