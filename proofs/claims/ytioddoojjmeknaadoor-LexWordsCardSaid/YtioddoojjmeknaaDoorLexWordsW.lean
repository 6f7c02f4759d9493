/- The walk of the law LexWords. -/
import Derived.Test.YtioddoojjmeknaaDoorLexO
import Derived.Test.YtioddoojjmeknaaDoorLexT
import Derived.Deep.QuietTactic
import Derived.Deep.RegionWith
import Derived.Laws.IdiomStrings
namespace Go.Proofs.YtioddoojjmeknaaDoor
open Go.ChangeShapes Go.WideShapes Go.ChangeAt Go.RowKit
set_option linter.unusedVariables false

theorem lex_one {s : ByteArray} {r : LR} (h : lexL s.data.toList = r) (w : World) (hE : Env w) :
    Calls Tryd.prog 8 #[.string s] w fun e w' => ∃ a c, e = .returned (.tuple #[.slice a r.toks.length c, .agg #[.int .i64 r.pos.1, .int .i64 r.pos.2], .int .i64 r.err]) ∧ TkS w' a r.toks ∧ Below w.heap.size w w' := by
  subst h
  refine (Lex_any s w hE).mono ?_
  rintro e w' ⟨v, rfl, hT, hb⟩
  obtain ⟨a, c, rfl⟩ := hT.shape
  exact ⟨a, c, rfl, hT.rd, hb⟩
theorem lex_space {x : ByteArray} {r : LR} (h : lexL (32 :: x.data.toList) = r) (w : World) (hE : Env w) :
    Calls Tryd.prog 8 #[.string (⟨#[32]⟩ ++ x)] w fun e w' => ∃ a c, e = .returned (.tuple #[.slice a r.toks.length c, .agg #[.int .i64 r.pos.1, .int .i64 r.pos.2], .int .i64 r.err]) ∧ TkS w' a r.toks ∧ Below w.heap.size w w' :=
  lex_one (by rw [append_list]; exact h) w hE
theorem repeat_one (c : UInt8) : ∀ k, Lib.repeatL [c] k = List.replicate k c
  | 0 => rfl
  | k + 1 => by rw [Lib.repeatL, repeat_one c k]; rfl
theorem rep_any (c : UInt8) (k : Nat) (h : k ≤ 40) (w : World) :
    Calls Tryd.prog 18 #[.string ⟨#[c]⟩, .int .i64 k] w fun e w' => e = .returned (.string (bs (List.replicate k c))) ∧ Below w.heap.size w w' := by
  have := Tryd.strings_Repeat ⟨#[c]⟩ k w (by omega) (by show 1 * k ≤ _; omega)
  rw [show (⟨#[c]⟩ : ByteArray).data.toList = [c] from rfl, repeat_one] at this
  exact this
theorem name_letters (k : Nat) (h1 : 1 ≤ k) : nameL (List.replicate k 120) = decide (k ≤ 32) := by
  obtain ⟨m, rfl⟩ : ∃ m, k = m + 1 := ⟨k - 1, by omega⟩
  have h : (List.replicate (m + 1) (120 : UInt8)).all isW = true := List.all_eq_true.2 fun x hx => by rw [(List.mem_replicate.1 hx).2]; decide
  unfold nameL
  rw [h, List.length_replicate, List.replicate_succ, List.headD_cons, show isL 120 = true from by decide]
  simp
set_option maxHeartbeats 1000000 in
set_option maxRecDepth 100000 in
theorem LexWords_walk (n digit : Int) (w : World) (n0 : 0 ≤ n) (n1 : n ≤ 255) (d0 : 0 ≤ digit) (d1 : digit ≤ 255) (hE : Env w) :
    Calls Tryd.prog 7 #[.int .u8 n, .int .u8 digit] w fun e w' => e = .returned (.bool true) ∧ Below w.heap.size w w' := by
  obtain ⟨K, hK⟩ : ∃ K : Nat, 1 + n % 40 = K := ⟨(1 + n % 40).toNat, by omega⟩
  obtain ⟨D, hD⟩ : ∃ D : Nat, digit % 9 = D := ⟨(digit % 9).toNat, by omega⟩
  have k1 : 1 ≤ K := by omega
  have k2 : K ≤ 40 := by omega
  have hd : D < 9 := by omega
  have dc := digits_one D hd
  have dd := digits_dec K (by omega) D hd
  have l2 := rep_lex K (dC D) dc.1 k1 k2
  rw [digits_wn D K hd k1] at l2
  generalize hc : dC D = c at dc l2
  have l1 := rep_lex K 120 (by decide) k1 k2
  rw [letters_wn K k1] at l1
  have R1 := Lib.hid fun w => rep_any 120 K k2 w
  have R2 := Lib.hid fun w => rep_any c K k2 w
  have hnm := name_letters K k1
  have hx1 : (bs (List.replicate K 120)).data.toList = List.replicate K 120 := rfl
  have hy1 : (bs (List.replicate K c)).data.toList = List.replicate K c := rfl
  generalize bs (List.replicate K 120) = x at R1 hx1
  generalize bs (List.replicate K c) = y at R2 hy1
  have xs : x.size = K := by rw [size_list, hx1, List.length_replicate]
  have ys : y.size = K := by rw [size_list, hy1, List.length_replicate]
  have hn := fun w hE => Name_any x (by omega) w hE
  rw [hx1, hnm] at hn
  have NM := Lib.hid hn
  rw [← hx1] at l1
  rw [← hy1] at l2
  obtain ⟨X, hX⟩ : ∃ X, (⟨#[32]⟩ : ByteArray) ++ x = X := ⟨_, rfl⟩
  obtain ⟨Y, hY⟩ : ∃ Y, (⟨#[32]⟩ : ByteArray) ++ y = Y := ⟨_, rfl⟩
  have HW := Lib.hid fun w hE => wakes_any w hE
  have HE := Lib.hid hE
  have kc : ∀ w1 : World, (convert 48 9 (Value.slice (some ⟨w1.heap.size, 0, none⟩) 1 1)).run Tryd.prog (w1.alloc (.cells #[.int .u8 (49 + (D : Int))] 5)) = .ok (.string ⟨#[c]⟩) (w1.alloc (.cells #[.int .u8 (49 + (D : Int))] 5)) := by
    intro w1
    refine run_convert_bytes_back (w1.alloc _) 48 9 5 ⟨w1.heap.size, 0, none⟩ 1 [c] Tryd.underlying48 Tryd.underlying5 Tryd.underlying9 ?_
    intro j hj
    obtain rfl : j = 0 := by simpa using hj
    have := dc.2.2.1
    rw [show (⟨w1.heap.size, 0, none⟩ : Addr).add 0 = ⟨w1.heap.size, 0, none⟩ from rfl, cell_of_row _ _ _ _ _ (0, 0) (heap_alloc_new w1 _)]
    simp [this]
  have KC := Lib.hid kc
  clear dc hc kc hn hnm hE
  by_cases hk : K ≤ 32
  · have hk' : ¬ 32 < K := by omega
    have d32 : decide (K ≤ 32) = true := decide_eq_true hk
    rw [if_neg hk'] at l1
    have A1 := Lib.hid fun w hE => lex_space (x := x) (r := .ok [⟨⟨0, x.data.toList, 0⟩, (1, 2)⟩, ⟨tkEnd, posL (1, 2) x.data.toList⟩]) l1 w hE
    rw [hX] at A1
    simp only [LR.toks, LR.pos, LR.err, List.length_cons, List.length_nil, Nat.reduceAdd] at A1
    rw [d32] at NM
    clear l1
    go_enter Tryd.func7, Tryd.ntmps7
    go_wp2_with (go_at_call 18; refine (R1.out _).mono ?_; rintro e w1 ⟨rfl, hb1⟩; have B1 := Lib.hid hb1; have E1 := Lib.hid (HE.out.below hb1); clear hb1)
    rw [KC.out w1]
    go_wp2_with (first
      | (go_at_call_of 18 c; go_must (refine (R2.out _).mono ?_; rintro e w2 ⟨rfl, hb2⟩; have B2 := Lib.hid (chain (chain B1.out (Nat.le_refl _) (below_box w1 (.cells #[.int .u8 (49 + (D : Int))] 5))) (Nat.le_refl _) hb2); have E2 := Lib.hid ((E1.out.below (below_box w1 (.cells #[.int .u8 (49 + (D : Int))] 5))).below hb2); clear hb2))
      | (go_at_call_of 8 X; go_must (refine (A1.out _ E2.out).mono ?_; rintro e w3 ⟨a, cp, rfl, hS3, hb3⟩; have B3 := Lib.hid (chain B2.out (Nat.le_refl _) hb3); have E3 := Lib.hid (E2.out.below hb3); have S3 := Lib.hid hS3; clear hb3 hS3)))
    have S3' := Lib.hid (S3.out.below (below_box w3 (.cells #[.int .i64 0, .int .i64 0] 24)))
    have B3' := Lib.hid (chain B3.out (Nat.le_refl _) (below_box w3 (.cells #[.int .i64 0, .int .i64 0] 24)))
    have E3' := Lib.hid (E3.out.below (below_box w3 (.cells #[.int .i64 0, .int .i64 0] 24)))
    generalize w3.alloc (.cells #[.int .i64 0, .int .i64 0] 24) = w3' at S3' B3' E3' ⊢
    clear S3 B3 E3
    by_cases hv : 18446744073709551616 ≤ vR D K
    · rw [if_pos hv] at l2
      have hge := dd.2 hv
      have A2 := Lib.hid fun w hE => lex_space (x := y) (r := .bad (1, 2) 5) l2 w hE
      rw [hY] at A2
      simp only [LR.toks, LR.pos, LR.err, List.length_nil] at A2
      clear l2
      have z20 : decide ((20 : Int) ≤ (K : Int)) = true := by rw [decide_eq_true_eq]; omega
      go_wp2_with (first
        | (go_at_call_of 8 Y; go_must (refine (A2.out _ E3'.out).mono ?_; rintro e w4 ⟨a', cp', rfl, hS4, hb4⟩; have B4 := Lib.hid (chain B3'.out (Nat.le_refl _) hb4); have E4 := Lib.hid (E3'.out.below hb4); have S4 := Lib.hid (S3'.out.below hb4); have T4 := Lib.hid hS4; clear hb4 hS4))
        | (go_at_call 11; go_must (refine (NM.out _ ?_).mono ?_; exact E4.out.below (below_box w4 (.cells #[.int .i64 1, .int .i64 2] 24)); rintro e w5 ⟨rfl, hb5⟩; have B5 := Lib.hid (chain (chain B4.out (Nat.le_refl _) (below_box w4 (.cells #[.int .i64 1, .int .i64 2] 24))) (Nat.le_refl _) hb5); have E5 := Lib.hid ((E4.out.below (below_box w4 (.cells #[.int .i64 1, .int .i64 2] 24))).below hb5); obtain ⟨g, hga, hg, -, c1, -, c3, c4⟩ := ((S4.out.below (below_box w4 (.cells #[.int .i64 1, .int .i64 2] 24))).below hb5) 0 _ rfl; subst hga; simp only [bs_of, Nat.zero_mul, Nat.zero_add] at c1 c3 c4; obtain ⟨q0, q1, q2⟩ := ((Two.new w4 1 2 24).keep hb5).cells; clear hb5)))
      go_wp2_with
        (go_at_call 10; go_must (refine (HW.out _ E5.out).mono ?_; rintro e w6 ⟨rfl, hb6⟩; have B6 := Lib.hid (chain B5.out (Nat.le_refl _) hb6); have q0' := (hb6.cell q2).trans q0; have q1' := (hb6.cell q2).trans q1; have q2' := Nat.lt_of_lt_of_le q2 hb6.size; clear hb6))
      try (first | go_quiet (fail) | go_region)
      all_goals go_wp2_with fail
      all_goals go_ret
      all_goals exact ⟨rfl, by first | exact B6.out | exact B6.out.drew | exact chain B6.out (Nat.le_refl _) (below_drewN _ _ _)⟩
    · rw [if_neg hv] at l2
      have hle := dd.1 (by omega)
      have A2 := Lib.hid fun w hE => lex_space (x := y) (r := .ok [⟨⟨1, y.data.toList, vR D K⟩, (1, 2)⟩, ⟨tkEnd, posL (1, 2) y.data.toList⟩]) l2 w hE
      rw [hY] at A2
      simp only [LR.toks, LR.pos, LR.err, List.length_cons, List.length_nil, Nat.reduceAdd] at A2
      clear l2
      go_wp2_with (first
        | (go_at_call_of 8 Y; go_must (refine (A2.out _ E3'.out).mono ?_; rintro e w4 ⟨a', cp', rfl, hS4, hb4⟩; have B4 := Lib.hid (chain B3'.out (Nat.le_refl _) hb4); have E4 := Lib.hid (E3'.out.below hb4); have S4 := Lib.hid (S3'.out.below hb4); have T4 := Lib.hid hS4; clear hb4 hS4))
        | (go_at_call 11; go_must (refine (NM.out _ ?_).mono ?_; exact E4.out.below (below_box w4 (.cells #[.int .i64 0, .int .i64 0] 24)); rintro e w5 ⟨rfl, hb5⟩; have B5 := Lib.hid (chain (chain B4.out (Nat.le_refl _) (below_box w4 (.cells #[.int .i64 0, .int .i64 0] 24))) (Nat.le_refl _) hb5); have E5 := Lib.hid ((E4.out.below (below_box w4 (.cells #[.int .i64 0, .int .i64 0] 24))).below hb5); obtain ⟨g, hga, hg, -, c1, -, c3, c4⟩ := ((S4.out.below (below_box w4 (.cells #[.int .i64 0, .int .i64 0] 24))).below hb5) 0 _ rfl; subst hga; simp only [bs_of, Nat.zero_mul, Nat.zero_add] at c1 c3 c4; obtain ⟨g', hga', hg', -, -, d2, -, -⟩ := ((T4.out.below (below_box w4 (.cells #[.int .i64 0, .int .i64 0] 24))).below hb5) 0 _ rfl; subst hga'; simp only [Nat.zero_mul, Nat.zero_add] at d2; clear hb5)))
      go_loop [14, 88] (fun s14 s88 => ∃ j : Nat, s14 = .int .u64 (vR D j) ∧ s88 = .int .i64 j ∧ j ≤ K) (fun _ s88 => K - (intOf s88).toNat)
      case atStart => exact ⟨0, rfl, rfl, by omega⟩
      case round =>
        obtain ⟨j, rfl, rfl, hj⟩ := hrel
        by_cases hlt : j < K
        · have h1 := vR_succ D j hd
          have h2 := vR_le D (j + 1) hd (K - (j + 1))
          rw [show j + 1 + (K - (j + 1)) = K from by omega] at h2
          have HV := Lib.hid h1
          have h3 : 10 * vR D j + (1 + D) < 18446744073709551616 := by omega
          clear h1 h2 d2 hv
          generalize vR D j = v at HV h3 ⊢
          go_wp2_with fail
          refine ⟨⟨j + 1, by rw [HV.out]; congr 1, by go_num, by omega⟩, by simp [intOf]; omega⟩
        · obtain rfl : j = K := by omega
          go_wp2_with
              (go_at_call 10; go_must (refine (HW.out _ E5.out).mono ?_; rintro e w6 ⟨rfl, hb6⟩; have B6 := Lib.hid (chain B5.out (Nat.le_refl _) hb6); have d2' := (hb6.cell hg').trans d2; have hg2 := Nat.lt_of_lt_of_le hg' hb6.size; clear hb6))
          try (first | go_quiet (fail) | go_region)
          all_goals go_wp2_with fail
          all_goals go_ret
          all_goals exact ⟨rfl, by first | exact B6.out | exact B6.out.drew | exact chain B6.out (Nat.le_refl _) (below_drewN _ _ _)⟩
  · have hk' : 32 < K := by omega
    have d32 : decide (K ≤ 32) = false := decide_eq_false hk
    rw [if_pos hk'] at l1
    have A1 := Lib.hid fun w hE => lex_space (x := x) (r := .bad (1, 2) 7) l1 w hE
    rw [hX] at A1
    simp only [LR.toks, LR.pos, LR.err, List.length_nil] at A1
    rw [d32] at NM
    clear l1
    go_enter Tryd.func7, Tryd.ntmps7
    go_wp2_with (go_at_call 18; refine (R1.out _).mono ?_; rintro e w1 ⟨rfl, hb1⟩; have B1 := Lib.hid hb1; have E1 := Lib.hid (HE.out.below hb1); clear hb1)
    rw [KC.out w1]
    go_wp2_with (first
      | (go_at_call_of 18 c; go_must (refine (R2.out _).mono ?_; rintro e w2 ⟨rfl, hb2⟩; have B2 := Lib.hid (chain (chain B1.out (Nat.le_refl _) (below_box w1 (.cells #[.int .u8 (49 + (D : Int))] 5))) (Nat.le_refl _) hb2); have E2 := Lib.hid ((E1.out.below (below_box w1 (.cells #[.int .u8 (49 + (D : Int))] 5))).below hb2); clear hb2))
      | (go_at_call_of 8 X; go_must (refine (A1.out _ E2.out).mono ?_; rintro e w3 ⟨a, cp, rfl, hS3, hb3⟩; have B3 := Lib.hid (chain B2.out (Nat.le_refl _) hb3); have E3 := Lib.hid (E2.out.below hb3); have S3 := Lib.hid hS3; clear hb3 hS3)))
    have S3' := Lib.hid (S3.out.below (below_box w3 (.cells #[.int .i64 1, .int .i64 2] 24)))
    have B3' := Lib.hid (chain B3.out (Nat.le_refl _) (below_box w3 (.cells #[.int .i64 1, .int .i64 2] 24)))
    have E3' := Lib.hid (E3.out.below (below_box w3 (.cells #[.int .i64 1, .int .i64 2] 24)))
    generalize w3.alloc (.cells #[.int .i64 1, .int .i64 2] 24) = w3' at S3' B3' E3' ⊢
    clear S3 B3 E3
    by_cases hv : 18446744073709551616 ≤ vR D K
    · rw [if_pos hv] at l2
      have hge := dd.2 hv
      have A2 := Lib.hid fun w hE => lex_space (x := y) (r := .bad (1, 2) 5) l2 w hE
      rw [hY] at A2
      simp only [LR.toks, LR.pos, LR.err, List.length_nil] at A2
      clear l2
      have z20 : decide ((20 : Int) ≤ (K : Int)) = true := by rw [decide_eq_true_eq]; omega
      go_wp2_with (first
        | (go_at_call_of 8 Y; go_must (refine (A2.out _ E3'.out).mono ?_; rintro e w4 ⟨a', cp', rfl, hS4, hb4⟩; have B4 := Lib.hid (chain B3'.out (Nat.le_refl _) hb4); have E4 := Lib.hid (E3'.out.below hb4); have S4 := Lib.hid (S3'.out.below hb4); have T4 := Lib.hid hS4; clear hb4 hS4))
        | (go_at_call 11; go_must (refine (NM.out _ ?_).mono ?_; exact E4.out.below (below_box w4 (.cells #[.int .i64 1, .int .i64 2] 24)); rintro e w5 ⟨rfl, hb5⟩; have B5 := Lib.hid (chain (chain B4.out (Nat.le_refl _) (below_box w4 (.cells #[.int .i64 1, .int .i64 2] 24))) (Nat.le_refl _) hb5); have E5 := Lib.hid ((E4.out.below (below_box w4 (.cells #[.int .i64 1, .int .i64 2] 24))).below hb5); obtain ⟨q0, q1, q2⟩ := ((Two.new w4 1 2 24).keep hb5).cells; clear hb5)))
      go_wp2_with
        (go_at_call 10; go_must (refine (HW.out _ E5.out).mono ?_; rintro e w6 ⟨rfl, hb6⟩; have B6 := Lib.hid (chain B5.out (Nat.le_refl _) hb6); have q0' := (hb6.cell q2).trans q0; have q1' := (hb6.cell q2).trans q1; have q2' := Nat.lt_of_lt_of_le q2 hb6.size; clear hb6))
      try (first | go_quiet (fail) | go_region)
      all_goals go_wp2_with fail
      all_goals go_ret
      all_goals exact ⟨rfl, by first | exact B6.out | exact B6.out.drew | exact chain B6.out (Nat.le_refl _) (below_drewN _ _ _)⟩
    · rw [if_neg hv] at l2
      have hle := dd.1 (by omega)
      omega
end Go.Proofs.YtioddoojjmeknaaDoor
