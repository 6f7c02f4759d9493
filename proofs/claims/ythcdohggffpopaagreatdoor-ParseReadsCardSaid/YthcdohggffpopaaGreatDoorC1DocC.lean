/- Layer 7: the document's parser: what may begin; one expression more, one type more. -/
import Derived.Test.YthcdohggffpopaaGreatDoorC1DocB
namespace Go.Proofs.YthcdohggffpopaaGreatDoor
open Go.Lib (hid)
open Go.ChangeShapes Go.WideShapes Go.ChangeAt Go.RowKit
section
variable {X : Nat → Prop} {g b : Nat} {l : List Tok} {e : Nat} {d : Int} {f : FM}
set_option maxRecDepth 100000 in
theorem doperand_any (w : World) (h : DInv X g b w l e d f) :
    Calls Tryz.prog 229 #[.pointer (some ⟨g, 0, none⟩)] w fun e' w' => e' = .returned (.bool (begE l)) ∧ Below w.heap.size w w' := by
  have c4 := dnamed_any w h
  have HB : Hid (begE l = (isT sExcl l || isT sLp l || isNum l || isName l)) := hid rfl
  have c1 : Hid (∀ w', Below w.heap.size w w' → Calls Tryz.prog 50 #[.pointer (some ⟨g, 0, none⟩), .string ⟨#[33]⟩] w' fun e' w2 => e' = .returned (.bool (isT sExcl l)) ∧ Below w'.heap.size w' w2) := hid fun w' hb => dis_any sExcl (by decide) w' (h.below hb)
  have c2 : Hid (∀ w', Below w.heap.size w w' → Calls Tryz.prog 50 #[.pointer (some ⟨g, 0, none⟩), .string ⟨#[40]⟩] w' fun e' w2 => e' = .returned (.bool (isT sLp l)) ∧ Below w'.heap.size w' w2) := hid fun w' hb => dis_any sLp (by decide) w' (h.below hb)
  have H := hid h
  have b0 : (((hd l).tk.k : Int) == 1) = isNum l := beq_nat (hd l).tk.k 1
  have hl := h.wf.pos
  clear h
  cases e1 : isT sExcl l <;> cases e2 : isT sLp l <;> cases e3 : isNum l <;> cases e4 : isName l
  all_goals
    rw [e1] at c1 HB; rw [e2] at c2 HB; rw [e3] at b0 HB; rw [e4] at c4 HB
    have C4 := hid c4
    clear c4 e1 e2 e3 e4
    go_enter Tryz.func229, Tryz.ntmps229
    go_wp2_with (first | (go_at_call 50; first | ((with_reducible refine C1.out.mono ?_); rintro e' w2 ⟨rfl, hb2⟩; have B2 := hid (chain B1.out (Nat.le_refl _) hb2); have C2 := hid (c2.out w2 B2.out); clear hb2) | ((with_reducible refine C2.out.mono ?_); rintro e' w3 ⟨rfl, hb3⟩; have B3 := hid (chain B2.out (Nat.le_refl _) hb3); clear hb3; obtain ⟨i, n, k, cp, h0, h1, h2, h7, hf, hi, hc, hm, hkg, hkl, c0, -⟩ := (H.out.below B3.out).look; unfold maxLen at hm; have hin : (i : Int) < (n : Int) := by omega)) | (go_at_call 103; go_must (refine C4.out.mono ?_; rintro e' w1 ⟨rfl, hb⟩; have B1 := hid hb; have C1 := hid (c1.out w1 hb); clear hb)))
    go_quiet (fail)
    go_wp2_with fail
    go_ret
    exact ⟨retBe HB.out.symm, B3.out.trans (below_drewN _ _ _)⟩
theorem begT_kind {l : List Tok} (hw : WF l) (h0 : (hd l).tk.k ≠ 0) : begT l = false := by
  have hk : isKw (hd l).tk.t = false := by
    rcases hw.cases with ⟨h, _⟩ | ⟨h, _⟩
    · rw [h]; decide
    · exact h.kw h0
  unfold isKw at hk
  rw [Bool.or_eq_false_iff] at hk
  have h1 : tyW.contains (hd l).tk.t = false := by
    rw [← Bool.not_eq_true, List.contains_iff_mem]
    intro hm
    have : ∀ x ∈ tyW, kwL.contains x = true := by decide
    rw [this _ hm] at hk
    exact absurd hk.1 (by decide)
  have h2 : isName l = false := by unfold isName; rw [decide_eq_false h0]; rfl
  unfold begT
  rw [h1, h2, hk.2]; rfl
set_option maxHeartbeats 40000000 in
set_option maxRecDepth 100000 in
theorem dtyped_any (w : World) (h : DInv X g b w l e d f) :
    Calls Tryz.prog 195 #[.pointer (some ⟨g, 0, none⟩)] w fun e' w' => e' = .returned (.bool (begT l)) ∧ Below w.heap.size w w' := by
  have c4 := dnamed_any w h
  have H := hid h
  have hl := h.wf.pos
  have hb : begT l = (tyW.contains (hd l).tk.t || (intW (hd l).tk.t).isSome || isName l) := rfl
  have hbk := begT_kind h.wf
  clear h
  cases e4 : isName l
  · rw [e4] at c4 hb
    have C4 := hid c4
    clear c4 e4
    by_cases hk : (hd l).tk.k = 0
    · have b0 : (((hd l).tk.k : Int) != 0) = false := by rw [hk]; rfl
      have HI := hid (fun w => refInteger_any (hd l).tk.t w)
      clear hk hbk
      obtain ⟨t, ht0⟩ : ∃ t, (hd l).tk.t = t := ⟨_, rfl⟩
      rw [ht0] at HI hb
      have HT := hid ht0
      clear ht0
      cases e1 : intW t with
      | none =>
        have HI2 : Hid (∀ w, Calls Tryz.prog 120 #[.string (bs t)] w fun e w' => e = .returned (.tuple #[.int .i64 0, .bool false]) ∧ Below w.heap.size w w') := hid fun w => by have := HI.out w; rw [e1] at this; exact this
        rw [e1] at hb
        clear HI
        by_cases ht : t ∈ tyW
        · have HB : Hid (begT l = true) := hid (by rw [hb, List.contains_iff_mem.2 ht]; rfl)
          clear hb e1
          simp only [tyW, List.mem_cons, List.mem_nil_iff, or_false] at ht
          rcases ht with ht | ht | ht | ht | ht | ht | ht | ht | ht
          · have q0 : ((bs t).toList == [98, 121, 116, 101, 115]) = true := (beq_l t _).trans (by rw [ht]; decide)
            clear ht
            go_enter Tryz.func195, Tryz.ntmps195
            go_wp2_with ((go_at_call 103; go_must (refine C4.out.mono ?_; rintro e' w1 ⟨rfl, hb1⟩; obtain ⟨i, n, k, cp, h0, h1, h2, h7, hf, hi, hc, hm, hkg, hkl, c0, c1, -⟩ := (H.out.below hb1).look; rw [HT.out] at c1; unfold maxLen at hm; have hin : (i : Int) < (n : Int) := by omega)))
            go_quiet (fail)
            go_wp2_with fail
            go_quiet (fail)
            go_wp2_with (go_at_call 120; go_must (refine (HI2.out _).mono ?_; rintro e' w2 ⟨rfl, hb2⟩))
            go_ret
            exact ⟨retBe HB.out.symm, chain (chain hb1 (Nat.le_refl _) (below_drewN _ _ _)) (Nat.le_refl _) hb2⟩
          · have q0 : ((bs t).toList == [98, 121, 116, 101, 115]) = false := (beq_l t _).trans (by rw [ht]; decide)
            have q1 : ((bs t).toList == [122, 101, 114, 111]) = true := (beq_l t _).trans (by rw [ht]; decide)
            clear ht
            go_enter Tryz.func195, Tryz.ntmps195
            go_wp2_with ((go_at_call 103; go_must (refine C4.out.mono ?_; rintro e' w1 ⟨rfl, hb1⟩; obtain ⟨i, n, k, cp, h0, h1, h2, h7, hf, hi, hc, hm, hkg, hkl, c0, c1, -⟩ := (H.out.below hb1).look; rw [HT.out] at c1; unfold maxLen at hm; have hin : (i : Int) < (n : Int) := by omega)))
            go_quiet (fail)
            go_wp2_with fail
            go_quiet (fail)
            go_wp2_with (go_at_call 120; go_must (refine (HI2.out _).mono ?_; rintro e' w2 ⟨rfl, hb2⟩))
            go_ret
            exact ⟨retBe HB.out.symm, chain (chain hb1 (Nat.le_refl _) (below_drewN _ _ _)) (Nat.le_refl _) hb2⟩
          · have q0 : ((bs t).toList == [98, 121, 116, 101, 115]) = false := (beq_l t _).trans (by rw [ht]; decide)
            have q1 : ((bs t).toList == [122, 101, 114, 111]) = false := (beq_l t _).trans (by rw [ht]; decide)
            have q2 : ((bs t).toList == [115, 107, 105, 112]) = true := (beq_l t _).trans (by rw [ht]; decide)
            clear ht
            go_enter Tryz.func195, Tryz.ntmps195
            go_wp2_with ((go_at_call 103; go_must (refine C4.out.mono ?_; rintro e' w1 ⟨rfl, hb1⟩; obtain ⟨i, n, k, cp, h0, h1, h2, h7, hf, hi, hc, hm, hkg, hkl, c0, c1, -⟩ := (H.out.below hb1).look; rw [HT.out] at c1; unfold maxLen at hm; have hin : (i : Int) < (n : Int) := by omega)))
            go_quiet (fail)
            go_wp2_with fail
            go_quiet (fail)
            go_wp2_with (go_at_call 120; go_must (refine (HI2.out _).mono ?_; rintro e' w2 ⟨rfl, hb2⟩))
            go_ret
            exact ⟨retBe HB.out.symm, chain (chain hb1 (Nat.le_refl _) (below_drewN _ _ _)) (Nat.le_refl _) hb2⟩
          · have q0 : ((bs t).toList == [98, 121, 116, 101, 115]) = false := (beq_l t _).trans (by rw [ht]; decide)
            have q1 : ((bs t).toList == [122, 101, 114, 111]) = false := (beq_l t _).trans (by rw [ht]; decide)
            have q2 : ((bs t).toList == [115, 107, 105, 112]) = false := (beq_l t _).trans (by rw [ht]; decide)
            have q3 : ((bs t).toList == [119, 105, 110, 100, 111, 119]) = true := (beq_l t _).trans (by rw [ht]; decide)
            clear ht
            go_enter Tryz.func195, Tryz.ntmps195
            go_wp2_with ((go_at_call 103; go_must (refine C4.out.mono ?_; rintro e' w1 ⟨rfl, hb1⟩; obtain ⟨i, n, k, cp, h0, h1, h2, h7, hf, hi, hc, hm, hkg, hkl, c0, c1, -⟩ := (H.out.below hb1).look; rw [HT.out] at c1; unfold maxLen at hm; have hin : (i : Int) < (n : Int) := by omega)))
            go_quiet (fail)
            go_wp2_with fail
            go_quiet (fail)
            go_wp2_with (go_at_call 120; go_must (refine (HI2.out _).mono ?_; rintro e' w2 ⟨rfl, hb2⟩))
            go_ret
            exact ⟨retBe HB.out.symm, chain (chain hb1 (Nat.le_refl _) (below_drewN _ _ _)) (Nat.le_refl _) hb2⟩
          · have q0 : ((bs t).toList == [98, 121, 116, 101, 115]) = false := (beq_l t _).trans (by rw [ht]; decide)
            have q1 : ((bs t).toList == [122, 101, 114, 111]) = false := (beq_l t _).trans (by rw [ht]; decide)
            have q2 : ((bs t).toList == [115, 107, 105, 112]) = false := (beq_l t _).trans (by rw [ht]; decide)
            have q3 : ((bs t).toList == [119, 105, 110, 100, 111, 119]) = false := (beq_l t _).trans (by rw [ht]; decide)
            have q4 : ((bs t).toList == [97, 116]) = true := (beq_l t _).trans (by rw [ht]; decide)
            clear ht
            go_enter Tryz.func195, Tryz.ntmps195
            go_wp2_with ((go_at_call 103; go_must (refine C4.out.mono ?_; rintro e' w1 ⟨rfl, hb1⟩; obtain ⟨i, n, k, cp, h0, h1, h2, h7, hf, hi, hc, hm, hkg, hkl, c0, c1, -⟩ := (H.out.below hb1).look; rw [HT.out] at c1; unfold maxLen at hm; have hin : (i : Int) < (n : Int) := by omega)))
            go_quiet (fail)
            go_wp2_with fail
            go_quiet (fail)
            go_wp2_with (go_at_call 120; go_must (refine (HI2.out _).mono ?_; rintro e' w2 ⟨rfl, hb2⟩))
            go_ret
            exact ⟨retBe HB.out.symm, chain (chain hb1 (Nat.le_refl _) (below_drewN _ _ _)) (Nat.le_refl _) hb2⟩
          · have q0 : ((bs t).toList == [98, 121, 116, 101, 115]) = false := (beq_l t _).trans (by rw [ht]; decide)
            have q1 : ((bs t).toList == [122, 101, 114, 111]) = false := (beq_l t _).trans (by rw [ht]; decide)
            have q2 : ((bs t).toList == [115, 107, 105, 112]) = false := (beq_l t _).trans (by rw [ht]; decide)
            have q3 : ((bs t).toList == [119, 105, 110, 100, 111, 119]) = false := (beq_l t _).trans (by rw [ht]; decide)
            have q4 : ((bs t).toList == [97, 116]) = false := (beq_l t _).trans (by rw [ht]; decide)
            have q5 : ((bs t).toList == [114, 101, 115, 116]) = true := (beq_l t _).trans (by rw [ht]; decide)
            clear ht
            go_enter Tryz.func195, Tryz.ntmps195
            go_wp2_with ((go_at_call 103; go_must (refine C4.out.mono ?_; rintro e' w1 ⟨rfl, hb1⟩; obtain ⟨i, n, k, cp, h0, h1, h2, h7, hf, hi, hc, hm, hkg, hkl, c0, c1, -⟩ := (H.out.below hb1).look; rw [HT.out] at c1; unfold maxLen at hm; have hin : (i : Int) < (n : Int) := by omega)))
            go_quiet (fail)
            go_wp2_with fail
            go_quiet (fail)
            go_wp2_with (go_at_call 120; go_must (refine (HI2.out _).mono ?_; rintro e' w2 ⟨rfl, hb2⟩))
            go_ret
            exact ⟨retBe HB.out.symm, chain (chain hb1 (Nat.le_refl _) (below_drewN _ _ _)) (Nat.le_refl _) hb2⟩
          · have q0 : ((bs t).toList == [98, 121, 116, 101, 115]) = false := (beq_l t _).trans (by rw [ht]; decide)
            have q1 : ((bs t).toList == [122, 101, 114, 111]) = false := (beq_l t _).trans (by rw [ht]; decide)
            have q2 : ((bs t).toList == [115, 107, 105, 112]) = false := (beq_l t _).trans (by rw [ht]; decide)
            have q3 : ((bs t).toList == [119, 105, 110, 100, 111, 119]) = false := (beq_l t _).trans (by rw [ht]; decide)
            have q4 : ((bs t).toList == [97, 116]) = false := (beq_l t _).trans (by rw [ht]; decide)
            have q5 : ((bs t).toList == [114, 101, 115, 116]) = false := (beq_l t _).trans (by rw [ht]; decide)
            have q6 : ((bs t).toList == [116, 97, 105, 108]) = true := (beq_l t _).trans (by rw [ht]; decide)
            clear ht
            go_enter Tryz.func195, Tryz.ntmps195
            go_wp2_with ((go_at_call 103; go_must (refine C4.out.mono ?_; rintro e' w1 ⟨rfl, hb1⟩; obtain ⟨i, n, k, cp, h0, h1, h2, h7, hf, hi, hc, hm, hkg, hkl, c0, c1, -⟩ := (H.out.below hb1).look; rw [HT.out] at c1; unfold maxLen at hm; have hin : (i : Int) < (n : Int) := by omega)))
            go_quiet (fail)
            go_wp2_with fail
            go_quiet (fail)
            go_wp2_with (go_at_call 120; go_must (refine (HI2.out _).mono ?_; rintro e' w2 ⟨rfl, hb2⟩))
            go_ret
            exact ⟨retBe HB.out.symm, chain (chain hb1 (Nat.le_refl _) (below_drewN _ _ _)) (Nat.le_refl _) hb2⟩
          · have q0 : ((bs t).toList == [98, 121, 116, 101, 115]) = false := (beq_l t _).trans (by rw [ht]; decide)
            have q1 : ((bs t).toList == [122, 101, 114, 111]) = false := (beq_l t _).trans (by rw [ht]; decide)
            have q2 : ((bs t).toList == [115, 107, 105, 112]) = false := (beq_l t _).trans (by rw [ht]; decide)
            have q3 : ((bs t).toList == [119, 105, 110, 100, 111, 119]) = false := (beq_l t _).trans (by rw [ht]; decide)
            have q4 : ((bs t).toList == [97, 116]) = false := (beq_l t _).trans (by rw [ht]; decide)
            have q5 : ((bs t).toList == [114, 101, 115, 116]) = false := (beq_l t _).trans (by rw [ht]; decide)
            have q6 : ((bs t).toList == [116, 97, 105, 108]) = false := (beq_l t _).trans (by rw [ht]; decide)
            have q7 : ((bs t).toList == [110, 111, 110, 101]) = true := (beq_l t _).trans (by rw [ht]; decide)
            clear ht
            go_enter Tryz.func195, Tryz.ntmps195
            go_wp2_with ((go_at_call 103; go_must (refine C4.out.mono ?_; rintro e' w1 ⟨rfl, hb1⟩; obtain ⟨i, n, k, cp, h0, h1, h2, h7, hf, hi, hc, hm, hkg, hkl, c0, c1, -⟩ := (H.out.below hb1).look; rw [HT.out] at c1; unfold maxLen at hm; have hin : (i : Int) < (n : Int) := by omega)))
            go_quiet (fail)
            go_wp2_with fail
            go_quiet (fail)
            go_wp2_with (go_at_call 120; go_must (refine (HI2.out _).mono ?_; rintro e' w2 ⟨rfl, hb2⟩))
            go_ret
            exact ⟨retBe HB.out.symm, chain (chain hb1 (Nat.le_refl _) (below_drewN _ _ _)) (Nat.le_refl _) hb2⟩
          · have q0 : ((bs t).toList == [98, 121, 116, 101, 115]) = false := (beq_l t _).trans (by rw [ht]; decide)
            have q1 : ((bs t).toList == [122, 101, 114, 111]) = false := (beq_l t _).trans (by rw [ht]; decide)
            have q2 : ((bs t).toList == [115, 107, 105, 112]) = false := (beq_l t _).trans (by rw [ht]; decide)
            have q3 : ((bs t).toList == [119, 105, 110, 100, 111, 119]) = false := (beq_l t _).trans (by rw [ht]; decide)
            have q4 : ((bs t).toList == [97, 116]) = false := (beq_l t _).trans (by rw [ht]; decide)
            have q5 : ((bs t).toList == [114, 101, 115, 116]) = false := (beq_l t _).trans (by rw [ht]; decide)
            have q6 : ((bs t).toList == [116, 97, 105, 108]) = false := (beq_l t _).trans (by rw [ht]; decide)
            have q7 : ((bs t).toList == [110, 111, 110, 101]) = false := (beq_l t _).trans (by rw [ht]; decide)
            have q8 : ((bs t).toList == [115, 119, 105, 116, 99, 104]) = true := (beq_l t _).trans (by rw [ht]; decide)
            clear ht
            go_enter Tryz.func195, Tryz.ntmps195
            go_wp2_with ((go_at_call 103; go_must (refine C4.out.mono ?_; rintro e' w1 ⟨rfl, hb1⟩; obtain ⟨i, n, k, cp, h0, h1, h2, h7, hf, hi, hc, hm, hkg, hkl, c0, c1, -⟩ := (H.out.below hb1).look; rw [HT.out] at c1; unfold maxLen at hm; have hin : (i : Int) < (n : Int) := by omega)))
            go_quiet (fail)
            go_wp2_with fail
            go_quiet (fail)
            go_wp2_with (go_at_call 120; go_must (refine (HI2.out _).mono ?_; rintro e' w2 ⟨rfl, hb2⟩))
            go_ret
            exact ⟨retBe HB.out.symm, chain (chain hb1 (Nat.le_refl _) (below_drewN _ _ _)) (Nat.le_refl _) hb2⟩
        · have HB : Hid (begT l = false) := hid (by rw [hb, show tyW.contains t = false from by rw [← Bool.not_eq_true, List.contains_iff_mem]; exact ht]; rfl)
          clear hb e1
          simp only [tyW, List.mem_cons, List.mem_nil_iff, or_false, not_or] at ht
          obtain ⟨h20, h21, h22, h23, h24, h25, h26, h27, h28⟩ := ht
          have q0 : ((bs t).toList == [98, 121, 116, 101, 115]) = false := (beq_l t _).trans (decide_eq_false h20)
          have q1 : ((bs t).toList == [122, 101, 114, 111]) = false := (beq_l t _).trans (decide_eq_false h21)
          have q2 : ((bs t).toList == [115, 107, 105, 112]) = false := (beq_l t _).trans (decide_eq_false h22)
          have q3 : ((bs t).toList == [119, 105, 110, 100, 111, 119]) = false := (beq_l t _).trans (decide_eq_false h23)
          have q4 : ((bs t).toList == [97, 116]) = false := (beq_l t _).trans (decide_eq_false h24)
          have q5 : ((bs t).toList == [114, 101, 115, 116]) = false := (beq_l t _).trans (decide_eq_false h25)
          have q6 : ((bs t).toList == [116, 97, 105, 108]) = false := (beq_l t _).trans (decide_eq_false h26)
          have q7 : ((bs t).toList == [110, 111, 110, 101]) = false := (beq_l t _).trans (decide_eq_false h27)
          have q8 : ((bs t).toList == [115, 119, 105, 116, 99, 104]) = false := (beq_l t _).trans (decide_eq_false h28)
          clear h20 h21 h22 h23 h24 h25 h26 h27 h28
          go_enter Tryz.func195, Tryz.ntmps195
          go_wp2_with ((go_at_call 103; go_must (refine C4.out.mono ?_; rintro e' w1 ⟨rfl, hb1⟩; obtain ⟨i, n, k, cp, h0, h1, h2, h7, hf, hi, hc, hm, hkg, hkl, c0, c1, -⟩ := (H.out.below hb1).look; rw [HT.out] at c1; unfold maxLen at hm; have hin : (i : Int) < (n : Int) := by omega)))
          go_quiet (fail)
          go_wp2_with fail
          go_quiet (fail)
          go_wp2_with (go_at_call 120; go_must (refine (HI2.out _).mono ?_; rintro e' w2 ⟨rfl, hb2⟩))
          go_ret
          exact ⟨retBe HB.out.symm, chain (chain hb1 (Nat.le_refl _) (below_drewN _ _ _)) (Nat.le_refl _) hb2⟩
      | some p =>
        obtain ⟨z, li⟩ := p
        have hz := intQ_pos e1
        have hz2 : (0 : Int) < (z : Int) := by omega
        have HI2 : Hid (∀ w, Calls Tryz.prog 120 #[.string (bs t)] w fun e w' => e = .returned (.tuple #[.int .i64 (z : Int), .bool li]) ∧ Below w.heap.size w w') := hid fun w => by have := HI.out w; rw [e1] at this; exact this
        have HB : Hid (begT l = true) := hid (by rw [hb, e1]; simp)
        clear HI e1 hb hz
        go_enter Tryz.func195, Tryz.ntmps195
        go_wp2_with ((go_at_call 103; go_must (refine C4.out.mono ?_; rintro e' w1 ⟨rfl, hb1⟩; obtain ⟨i, n, k, cp, h0, h1, h2, h7, hf, hi, hc, hm, hkg, hkl, c0, c1, -⟩ := (H.out.below hb1).look; rw [HT.out] at c1; unfold maxLen at hm; have hin : (i : Int) < (n : Int) := by omega)))
        go_quiet (fail)
        go_wp2_with fail
        go_quiet (fail)
        go_wp2_with (go_at_call 120; go_must (refine (HI2.out _).mono ?_; rintro e' w2 ⟨rfl, hb2⟩))
        go_ret
        exact ⟨retBe HB.out.symm, chain (chain hb1 (Nat.le_refl _) (below_drewN _ _ _)) (Nat.le_refl _) hb2⟩
    · have HB := hid (hbk hk)
      have b0 : (((hd l).tk.k : Int) != 0) = true := by rw [show (0 : Int) = ((0 : Nat) : Int) from rfl, ne_nat, decide_eq_false hk]; rfl
      clear hk hbk hb
      go_enter Tryz.func195, Tryz.ntmps195
      go_wp2_with (go_at_call 103; go_must (refine C4.out.mono ?_; rintro e' w1 ⟨rfl, hb1⟩; obtain ⟨i, n, k, cp, h0, h1, h2, h7, hf, hi, hc, hm, hkg, hkl, c0, c1, -⟩ := (H.out.below hb1).look; unfold maxLen at hm; have hin : (i : Int) < (n : Int) := by omega))
      go_quiet (fail)
      go_wp2_with fail
      go_quiet (fail)
      go_wp2_with fail
      go_ret
      exact ⟨retBe HB.out.symm, chain (chain hb1 (Nat.le_refl _) (below_drewN _ _ _)) (Nat.le_refl _) (below_drewN _ _ _)⟩
  · rw [e4] at c4 hb
    have C4 := hid c4
    have HB : Hid (begT l = true) := hid (by rw [hb, Bool.or_true])
    clear c4 e4 hb hbk
    go_enter Tryz.func195, Tryz.ntmps195
    go_wp2_with (go_at_call 103; go_must (refine C4.out.mono ?_; rintro e' w1 ⟨rfl, hb1⟩))
    go_ret
    exact ⟨retBe HB.out.symm, hb1⟩
theorem info_dexpr : (Tryz.prog.info? 164).map (fun i => (i.zero, i.size, i.bytes)) = some (some (.agg #[.int .i64 0, .string ⟨#[]⟩, .int .u64 0, .string ⟨#[]⟩, .slice none 0 0]), 5, 72) := by kernel_rfl
theorem info_dtype : (Tryz.prog.info? 149).map (fun i => (i.zero, i.size, i.bytes)) = some (some (.agg #[.int .i64 0, .int .i64 0, .bool false, .string ⟨#[]⟩, .slice none 0 0, .int .i64 0, .int .i64 0, .slice none 0 0]), 8, 104) := by kernel_rfl
set_option maxHeartbeats 1000000 in
set_option maxRecDepth 100000 in
theorem dput_any (y : XM) (c0 c1 c2 c3 c4 : Value) (w : World) (h : DInv X g b w l e d f) (hb : b < 9000000) (hy : Xrep (Pub X layD g w) w [c0, c1, c2, c3, c4] y) :
    Calls Tryz.prog 201 #[.pointer (some ⟨g, 0, none⟩), .agg #[c0, c1, c2, c3, c4]] w fun e' w' => e' = .returned (.int .i64 ((f.g.addX y).x : Int)) ∧ DInv X g (b + 1) w' l e d (f.setG (f.g.addX y)) ∧ St layD g w w' := by
  have hg := h.lt
  have hp := h.pot
  obtain ⟨L, i, a, c, vc, vs, vx, vt, hh, h1, h2, h3, h4, h5⟩ := h.mem
  obtain ⟨cs, own, q1, q2, q3⟩ := h5.x
  have hv : w.cell? ⟨g, 5, none⟩ = some vx := by rw [cell_of_row _ _ _ _ _ (0, 0) hh]; rfl
  have hne : vx.ownBlock ≠ some g := h5.x.off hh layD_ok.px
  have hf : w.frozen? ⟨g, 5, none⟩ = false := by simp [World.frozen?, hh]
  have h1c : ∀ u ∈ [c0, c1, c2, c3, c4], u.oneCell' = true := by
    obtain ⟨kv, e, ⟨_, hk⟩, _⟩ := hy
    simp only [List.cons.injEq, and_true] at e
    obtain ⟨rfl, rfl, rfl, rfl, rfl⟩ := e
    intro u hu
    simp only [List.mem_cons, List.mem_nil_iff, or_false] at hu
    rcases hu with rfl | rfl | rfl | rfl | rfl
    · rfl
    · rfl
    · rfl
    · rfl
    · rcases hk with ⟨rfl, _⟩ | ⟨_, _, _, rfl, _⟩ <;> rfl
  obtain ⟨i0, hi, hz0, hz1, hz2⟩ := info_parts info_dexpr
  have H := hid h
  have HO := hid (fun w' (hb : Below w.heap.size w w') => (RowR.below own hb : w'.ownsRow 0 164 5 vx f.g.xs.length cs.flatten))
  have HC := hid h1c
  have HY := hid hy
  have HQ := hid q3
  have HQ1 := hid q1
  have HQ2 := hid q2
  clear h own hh h3 h4 h5 hy q3 q2 q1 h1c h1 h2
  go_enter Tryz.func201, Tryz.ntmps201
  go_wp2_with fail
  go_region_law (refine step_one _ rfl _ _ 30 rfl 164 i0 _ 5 72 Tryz.underlying30 hi hz0 hz1 hz2 rfl (by decide) vx f.g.xs.length cs.flatten rfl (HO.out _ (below_two _ _ _)) _ _ [c0, c1, c2, c3, c4] rfl rfl (heap_two _ _ _) HC.out (by unfold maxLen; omega) (by omega) ?_; intro v' w1 hown hgrow hat; obtain ⟨a', cap', rfl⟩ := ownsRow_shape hown; have hw1 := grown_cell (below_two _ _ _) hg hgrow hne; have k1 : w1.cell? ⟨g, 5, none⟩ = some vx := (World.cell?_of_block (a := ⟨g, 5, none⟩) hw1).trans hv; have k2 : w1.frozen? ⟨g, 5, none⟩ = false := (World.frozen?_of_block (a := ⟨g, 5, none⟩) hw1).trans hf)
  all_goals
    obtain ⟨hI, hS⟩ := H.out.pushX hb hv (below_two _ _ _) y rfl HY.out hown HQ1.out HQ2.out HQ.out hgrow hat
    have HI := hid hI
    have HS := hid hS
    clear hI hS hown hgrow hat hw1
    go_wp2_with fail
    go_ret
    exact ⟨retI (by simp only [GM.x, GM.addX, List.length_append, List.length_singleton]; omega), HI.out, HS.out⟩
set_option maxHeartbeats 1000000 in
set_option maxRecDepth 100000 in
theorem dlay_any (y : TM) (c0 c1 c2 c3 c4 c5 c6 c7 : Value) (w : World) (h : DInv X g b w l e d f) (hb : b < 9000000) (hy : Trep layD (Pub X layD g w) w [c0, c1, c2, c3, c4, c5, c6, c7] y) :
    Calls Tryz.prog 198 #[.pointer (some ⟨g, 0, none⟩), .agg #[c0, c1, c2, c3, c4, c5, c6, c7]] w fun e' w' => e' = .returned (.int .i64 ((f.g.addT y).t : Int)) ∧ DInv X g (b + 1) w' l e d (f.setG (f.g.addT y)) ∧ St layD g w w' := by
  have hg := h.lt
  have hp := h.pot
  obtain ⟨L, i, a, c, vc, vs, vx, vt, hh, h1, h2, h3, h4, h5⟩ := h.mem
  obtain ⟨cs, own, q1, q2, q3⟩ := h5.t
  have hv : w.cell? ⟨g, 6, none⟩ = some vt := by rw [cell_of_row _ _ _ _ _ (0, 0) hh]; rfl
  have hne : vt.ownBlock ≠ some g := h5.t.off hh layD_ok.pt
  have hf : w.frozen? ⟨g, 6, none⟩ = false := by simp [World.frozen?, hh]
  have h1c : ∀ u ∈ [c0, c1, c2, c3, c4, c5, c6, c7], u.oneCell' = true := by
    obtain ⟨av, cv, e, ⟨_, hk⟩, _, ⟨_, hk'⟩, _⟩ := hy
    simp only [List.cons.injEq, and_true] at e
    obtain ⟨rfl, rfl, rfl, rfl, rfl, rfl, rfl, rfl⟩ := e
    intro u hu
    simp only [List.mem_cons, List.mem_nil_iff, or_false] at hu
    rcases hu with rfl | rfl | rfl | rfl | rfl | rfl | rfl | rfl
    · rfl
    · rfl
    · rfl
    · rfl
    · rcases hk with ⟨rfl, _⟩ | ⟨_, _, _, rfl, _⟩ <;> rfl
    · rfl
    · rfl
    · rcases hk' with ⟨rfl, _⟩ | ⟨_, _, _, rfl, _⟩ <;> rfl
  obtain ⟨i0, hi, hz0, hz1, hz2⟩ := info_parts info_dtype
  have H := hid h
  have HO := hid (fun w' (hb : Below w.heap.size w w') => (RowR.below own hb : w'.ownsRow 0 149 8 vt f.g.ts.length cs.flatten))
  have HC := hid h1c
  have HY := hid hy
  have HQ := hid q3
  have HQ1 := hid q1
  have HQ2 := hid q2
  clear h own hh h3 h4 h5 hy q3 q2 q1 h1c h1 h2
  go_enter Tryz.func198, Tryz.ntmps198
  go_wp2_with fail
  go_region_law (refine step_one _ rfl _ _ 31 rfl 149 i0 _ 8 104 Tryz.underlying31 hi hz0 hz1 hz2 rfl (by decide) vt f.g.ts.length cs.flatten rfl (HO.out _ (below_two _ _ _)) _ _ [c0, c1, c2, c3, c4, c5, c6, c7] rfl rfl (heap_two _ _ _) HC.out (by unfold maxLen; omega) (by omega) ?_; intro v' w1 hown hgrow hat; obtain ⟨a', cap', rfl⟩ := ownsRow_shape hown; have hw1 := grown_cell (below_two _ _ _) hg hgrow hne; have k1 : w1.cell? ⟨g, 6, none⟩ = some vt := (World.cell?_of_block (a := ⟨g, 6, none⟩) hw1).trans hv; have k2 : w1.frozen? ⟨g, 6, none⟩ = false := (World.frozen?_of_block (a := ⟨g, 6, none⟩) hw1).trans hf)
  all_goals
    obtain ⟨hI, hS⟩ := H.out.pushT hb hv (below_two _ _ _) y rfl HY.out hown HQ1.out HQ2.out HQ.out hgrow hat
    have HI := hid hI
    have HS := hid hS
    clear hI hS hown hgrow hat hw1
    go_wp2_with fail
    go_ret
    exact ⟨retI (by simp only [GM.t, GM.addT, List.length_append, List.length_singleton]; omega), HI.out, HS.out⟩
end
end Go.Proofs.YthcdohggffpopaaGreatDoor
