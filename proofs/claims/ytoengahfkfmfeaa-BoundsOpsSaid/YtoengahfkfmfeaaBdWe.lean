/- Contracts of layer 11: the document's Op, case by case. -/
import Derived.Test.YtoengahfkfmfeaaBdW
set_option linter.unusedVariables false
set_option linter.unusedSimpArgs false
namespace Go.Proofs.Ytoengahfkfmfeaa
open Go.ChangeShapes Go.WideShapes Go.ChangeAt Go.RowKit

set_option maxRecDepth 100000 in
set_option maxHeartbeats 2000000 in
theorem refOp_div_noA (s : ByteArray) (a b : Int × Int) (ha : WR a) (hb : WR b) (hv : a.1 ≤ a.2) (hu : b.1 ≤ b.2) (n0 : (s.toList == [43]) = false) (n1 : (s.toList == [42]) = false) (n2 : (s.toList == [60, 60]) = false) (n3 : (s.toList == [45]) = false) (n4 : (s.toList == [47]) = true) (hp : ¬ a.1 = a.2) (h : b.2 = 0) (w : World) :
    Calls Try.prog 10 #[.string s, .agg #[.int .u64 a.1, .int .u64 a.2], .agg #[.int .u64 b.1, .int .u64 b.2]] w fun e w' => e = optE (opB s.toList a b) ∧ Below w.heap.size w w' := by
  have HE : opB s.toList a b = none := by
    rw [opB_of (r := ((divR a.1 b.2).1, a.2 / max b.1 1)) (e := (divR a.1 b.2).2) hv hu (by unfold resB; rw [if_neg (by omega)]; rw [if_neg (by simp only [n0, n1, n2]; decide), if_neg (by rw [n3]; decide), if_pos n4])]
    rw [show divR a.1 b.2 = (0, 6) from if_pos h]; rfl
  rw [HE]
  clear HE
  have hw0 := fun w' => refOp_any s a.1 b.1 ha.1 hb.1 w'
  have hw1 := fun w' => refOp_any s a.2 b.2 ha.2 hb.2 w'
  obtain ⟨a0, a1⟩ := a
  obtain ⟨b0, b1⟩ := b
  simp only at *
  have HA0 := Lib.hid ha
  generalize hr0 : opR s.toList a0 b0 = r at *
  obtain ⟨r1, r2⟩ := r
  generalize hr1 : opR s.toList a1 b1 = q at *
  obtain ⟨q1, q2⟩ := q
  have HO : Hid (∀ w', Calls Try.prog 25 #[.string s, .int .u64 a0, .int .u64 b0] w' fun e w'' => e = .returned (.tuple #[.int .u64 r1, .int .i64 r2]) ∧ Below w'.heap.size w' w'') := Lib.hid hw0
  have HO1 : Hid (∀ w', Calls Try.prog 25 #[.string s, .int .u64 a1, .int .u64 b1] w' fun e w'' => e = .returned (.tuple #[.int .u64 q1, .int .i64 q2]) ∧ Below w'.heap.size w' w'') := Lib.hid hw1
  clear hw0 hw1 hr0 hr1 ha hb
  have hv1 : ¬ (a1 < a0) := by omega
  have hu1 : ¬ (b1 < b0) := by omega
  have h1 : (b1 == 0) = true := by simpa using h
  clear h
  have T0 := Lib.hid (Tri2.new w a0 a1 b0 b1)
  have B0 := Lib.hid (three_below w (.cells #[.int .u64 a0, .int .u64 a1] 26) (.cells #[.int .u64 b0, .int .u64 b1] 26) (.cells #[.int .u64 0, .int .u64 0] 26))
  obtain ⟨c0, c1, c2, c3, c4, c5, f0, f1⟩ := T0.out.cells
  go_enter Try.func10, Try.ntmps10
  go_upto_region 1 with fail
  generalize ((w.alloc (.cells #[.int .u64 a0, .int .u64 a1] 26)).alloc (.cells #[.int .u64 b0, .int .u64 b1] 26)).alloc (.cells #[.int .u64 0, .int .u64 0] 26) = W at *
  have hlt := T0.out.lt
  go_wp2_with (first | (go_at_call_of 25 b0; refine (HO.out _).mono ?_; rintro e w' ⟨rfl, hb1⟩; replace T0 := Lib.hid (T0.out.below hb1 T0.out.lt); replace B0 := Lib.hid (chain2 B0.out hb1); clear hb1; obtain ⟨c0, c1, c2, c3, c4, c5, f0, f1⟩ := T0.out.cells) | (go_at_call_of 25 b1; refine (HO1.out _).mono ?_; rintro e w' ⟨rfl, hb1⟩; replace T0 := Lib.hid (T0.out.below hb1 T0.out.lt); replace B0 := Lib.hid (chain2 B0.out hb1); clear hb1; obtain ⟨c0, c1, c2, c3, c4, c5, f0, f1⟩ := T0.out.cells))
  all_goals
    have q := T0.out.set (.int .u64 0) (.int .u64 0)
    exact bodyPost_ret (v := .tuple #[.agg #[.int .u64 0, .int .u64 0], .bool false]) (by simp [results, Try.results10, go_sem, q.1, q.2]) rfl ⟨rfl, (B0.out.setCell (p := ⟨w.heap.size + 1 + 1, 0, none⟩) (by show w.heap.size ≤ w.heap.size + 1 + 1; omega) _).setCell (p := ⟨w.heap.size + 1 + 1, 1, none⟩) (by show w.heap.size ≤ w.heap.size + 1 + 1; omega) _⟩
set_option maxRecDepth 100000 in
set_option maxHeartbeats 2000000 in
theorem refOp_div_okA (s : ByteArray) (a b : Int × Int) (ha : WR a) (hb : WR b) (hv : a.1 ≤ a.2) (hu : b.1 ≤ b.2) (n0 : (s.toList == [43]) = false) (n1 : (s.toList == [42]) = false) (n2 : (s.toList == [60, 60]) = false) (n3 : (s.toList == [45]) = false) (n4 : (s.toList == [47]) = true) (hp : ¬ a.1 = a.2) (h : ¬ b.2 = 0) (w : World) :
    Calls Try.prog 10 #[.string s, .agg #[.int .u64 a.1, .int .u64 a.2], .agg #[.int .u64 b.1, .int .u64 b.2]] w fun e w' => e = optE (opB s.toList a b) ∧ Below w.heap.size w w' := by
  have HE : opB s.toList a b = some (a.1 / b.2, a.2 / max b.1 1) := by
    rw [opB_of (r := ((divR a.1 b.2).1, a.2 / max b.1 1)) (e := (divR a.1 b.2).2) hv hu (by unfold resB; rw [if_neg (by omega)]; rw [if_neg (by simp only [n0, n1, n2]; decide), if_neg (by rw [n3]; decide), if_pos n4])]
    rw [show divR a.1 b.2 = (a.1 / b.2, 0) from if_neg h]; rfl
  rw [HE]
  clear HE
  have hw0 := fun w' => refOp_any s a.1 b.1 ha.1 hb.1 w'
  have hw1 := fun w' => refOp_any s a.2 b.2 ha.2 hb.2 w'
  have w1 := ha.1.1
  have w2 := ha.1.2
  have w3 := ha.2.1
  have w4 := ha.2.2
  have w5 := hb.1.1
  have w6 := hb.1.2
  have w7 := hb.2.1
  have w8 := hb.2.2
  obtain ⟨y1, y2⟩ := div_le ha.1 hb.2.1
  have hmx : 1 ≤ max b.1 1 ∧ 0 ≤ max b.1 1 := by omega
  obtain ⟨z1, z2⟩ := div_le ha.2 hmx.2
  have HG0 := fun w' => greater_any b.1 1 w'
  generalize max b.1 1 = mx at *
  obtain ⟨a0, a1⟩ := a
  obtain ⟨b0, b1⟩ := b
  simp only at *
  have HA0 := Lib.hid ha
  generalize hr0 : opR s.toList a0 b0 = r at *
  obtain ⟨r1, r2⟩ := r
  generalize hr1 : opR s.toList a1 b1 = q at *
  obtain ⟨q1, q2⟩ := q
  have HO : Hid (∀ w', Calls Try.prog 25 #[.string s, .int .u64 a0, .int .u64 b0] w' fun e w'' => e = .returned (.tuple #[.int .u64 r1, .int .i64 r2]) ∧ Below w'.heap.size w' w'') := Lib.hid hw0
  have HO1 : Hid (∀ w', Calls Try.prog 25 #[.string s, .int .u64 a1, .int .u64 b1] w' fun e w'' => e = .returned (.tuple #[.int .u64 q1, .int .i64 q2]) ∧ Below w'.heap.size w' w'') := Lib.hid hw1
  clear hw0 hw1 hr0 hr1 ha hb
  have hv1 : ¬ (a1 < a0) := by omega
  have hu1 : ¬ (b1 < b0) := by omega
  have HG := Lib.hid HG0
  clear HG0
  have h1 : (b1 == 0) = false := by simpa using h
  have h2 : (mx == 0) = false := by rw [beq_eq_false_iff_ne]; omega
  have h3 : ¬ mx = 0 := by omega
  obtain ⟨-, m1⟩ := hmx
  have q3 : IntKind.u64.wrap (a0.tdiv b1) = a0 / b1 := by rw [Int.tdiv_eq_ediv_of_nonneg w1, IntKind.wrap_u64]; omega
  have q4 : IntKind.u64.wrap (a1.tdiv mx) = a1 / mx := by rw [Int.tdiv_eq_ediv_of_nonneg w3, IntKind.wrap_u64]; omega
  have T0 := Lib.hid (Tri2.new w a0 a1 b0 b1)
  have B0 := Lib.hid (three_below w (.cells #[.int .u64 a0, .int .u64 a1] 26) (.cells #[.int .u64 b0, .int .u64 b1] 26) (.cells #[.int .u64 0, .int .u64 0] 26))
  obtain ⟨c0, c1, c2, c3, c4, c5, f0, f1⟩ := T0.out.cells
  go_enter Try.func10, Try.ntmps10
  go_upto_region 1 with fail
  generalize ((w.alloc (.cells #[.int .u64 a0, .int .u64 a1] 26)).alloc (.cells #[.int .u64 b0, .int .u64 b1] 26)).alloc (.cells #[.int .u64 0, .int .u64 0] 26) = W at *
  have hlt := T0.out.lt
  go_wp2_with (first | (go_at_call_of 25 b0; refine (HO.out _).mono ?_; rintro e w' ⟨rfl, hb1⟩; replace T0 := Lib.hid (T0.out.below hb1 T0.out.lt); replace B0 := Lib.hid (chain2 B0.out hb1); clear hb1; obtain ⟨c0, c1, c2, c3, c4, c5, f0, f1⟩ := T0.out.cells) | (go_at_call_of 25 b1; refine (HO1.out _).mono ?_; rintro e w' ⟨rfl, hb1⟩; replace T0 := Lib.hid (T0.out.below hb1 T0.out.lt); replace B0 := Lib.hid (chain2 B0.out hb1); clear hb1; obtain ⟨c0, c1, c2, c3, c4, c5, f0, f1⟩ := T0.out.cells) | (go_at_call 26; refine (HG.out _).mono ?_; rintro e w' ⟨rfl, rfl⟩))
  all_goals
    go_still_tail 10, (by kernel_rfl)
    change wpList _ _ _ _ _ (World.drew w')
    replace T0 : Hid (Tri2 (World.drew w') w.heap.size a0 a1 b0 b1 0 0) := Lib.hid ⟨T0.out.d0, T0.out.d1, T0.out.d2⟩
    replace B0 : Hid (Below w.heap.size w (World.drew w')) := Lib.hid ⟨B0.out.os, B0.out.tape, B0.out.output, B0.out.size, B0.out.block⟩
    generalize World.drew w' = W3 at *
    obtain ⟨c0, c1, c2, c3, c4, c5, f0, f1⟩ := T0.out.cells
    go_wp2_with fail
  all_goals
    have q := T0.out.set (.int .u64 (a0 / b1)) (.int .u64 (a1 / mx))
    exact bodyPost_ret (v := .tuple #[.agg #[.int .u64 (a0 / b1), .int .u64 (a1 / mx)], .bool true]) (by simp [results, Try.results10, go_sem, q.1, q.2]) rfl ⟨rfl, (B0.out.setCell (p := ⟨w.heap.size + 1 + 1, 0, none⟩) (by show w.heap.size ≤ w.heap.size + 1 + 1; omega) _).setCell (p := ⟨w.heap.size + 1 + 1, 1, none⟩) (by show w.heap.size ≤ w.heap.size + 1 + 1; omega) _⟩
set_option maxRecDepth 100000 in
set_option maxHeartbeats 2000000 in
theorem refOp_div_noB (s : ByteArray) (a b : Int × Int) (ha : WR a) (hb : WR b) (hv : a.1 ≤ a.2) (hu : b.1 ≤ b.2) (n0 : (s.toList == [43]) = false) (n1 : (s.toList == [42]) = false) (n2 : (s.toList == [60, 60]) = false) (n3 : (s.toList == [45]) = false) (n4 : (s.toList == [47]) = true) (hp : a.1 = a.2) (hq : ¬ b.1 = b.2) (h : b.2 = 0) (w : World) :
    Calls Try.prog 10 #[.string s, .agg #[.int .u64 a.1, .int .u64 a.2], .agg #[.int .u64 b.1, .int .u64 b.2]] w fun e w' => e = optE (opB s.toList a b) ∧ Below w.heap.size w w' := by
  have HE : opB s.toList a b = none := by
    rw [opB_of (r := ((divR a.1 b.2).1, a.2 / max b.1 1)) (e := (divR a.1 b.2).2) hv hu (by unfold resB; rw [if_neg (by omega)]; rw [if_neg (by simp only [n0, n1, n2]; decide), if_neg (by rw [n3]; decide), if_pos n4])]
    rw [show divR a.1 b.2 = (0, 6) from if_pos h]; rfl
  rw [HE]
  clear HE
  have hw0 := fun w' => refOp_any s a.1 b.1 ha.1 hb.1 w'
  have hw1 := fun w' => refOp_any s a.2 b.2 ha.2 hb.2 w'
  obtain ⟨a0, a1⟩ := a
  obtain ⟨b0, b1⟩ := b
  simp only at *
  subst hp
  have HA0 := Lib.hid ha
  generalize hr0 : opR s.toList a0 b0 = r at *
  obtain ⟨r1, r2⟩ := r
  generalize hr1 : opR s.toList a0 b1 = q at *
  obtain ⟨q1, q2⟩ := q
  have HO : Hid (∀ w', Calls Try.prog 25 #[.string s, .int .u64 a0, .int .u64 b0] w' fun e w'' => e = .returned (.tuple #[.int .u64 r1, .int .i64 r2]) ∧ Below w'.heap.size w' w'') := Lib.hid hw0
  have HO1 : Hid (∀ w', Calls Try.prog 25 #[.string s, .int .u64 a0, .int .u64 b1] w' fun e w'' => e = .returned (.tuple #[.int .u64 q1, .int .i64 q2]) ∧ Below w'.heap.size w' w'') := Lib.hid hw1
  clear hw0 hw1 hr0 hr1 ha hb
  have hv1 : ¬ (a0 < a0) := by omega
  have hu1 : ¬ (b1 < b0) := by omega
  have h1 : (b1 == 0) = true := by simpa using h
  clear h
  have T0 := Lib.hid (Tri2.new w a0 a0 b0 b1)
  have B0 := Lib.hid (three_below w (.cells #[.int .u64 a0, .int .u64 a0] 26) (.cells #[.int .u64 b0, .int .u64 b1] 26) (.cells #[.int .u64 0, .int .u64 0] 26))
  obtain ⟨c0, c1, c2, c3, c4, c5, f0, f1⟩ := T0.out.cells
  go_enter Try.func10, Try.ntmps10
  go_upto_region 1 with fail
  generalize ((w.alloc (.cells #[.int .u64 a0, .int .u64 a0] 26)).alloc (.cells #[.int .u64 b0, .int .u64 b1] 26)).alloc (.cells #[.int .u64 0, .int .u64 0] 26) = W at *
  have hlt := T0.out.lt
  go_wp2_with (first | (go_at_call_of 25 b0; refine (HO.out _).mono ?_; rintro e w' ⟨rfl, hb1⟩; replace T0 := Lib.hid (T0.out.below hb1 T0.out.lt); replace B0 := Lib.hid (chain2 B0.out hb1); clear hb1; obtain ⟨c0, c1, c2, c3, c4, c5, f0, f1⟩ := T0.out.cells) | (go_at_call_of 25 b1; refine (HO1.out _).mono ?_; rintro e w' ⟨rfl, hb1⟩; replace T0 := Lib.hid (T0.out.below hb1 T0.out.lt); replace B0 := Lib.hid (chain2 B0.out hb1); clear hb1; obtain ⟨c0, c1, c2, c3, c4, c5, f0, f1⟩ := T0.out.cells))
  all_goals
    have q := T0.out.set (.int .u64 0) (.int .u64 0)
    exact bodyPost_ret (v := .tuple #[.agg #[.int .u64 0, .int .u64 0], .bool false]) (by simp [results, Try.results10, go_sem, q.1, q.2]) rfl ⟨rfl, (B0.out.setCell (p := ⟨w.heap.size + 1 + 1, 0, none⟩) (by show w.heap.size ≤ w.heap.size + 1 + 1; omega) _).setCell (p := ⟨w.heap.size + 1 + 1, 1, none⟩) (by show w.heap.size ≤ w.heap.size + 1 + 1; omega) _⟩
set_option maxRecDepth 100000 in
set_option maxHeartbeats 2000000 in
theorem refOp_div_okB (s : ByteArray) (a b : Int × Int) (ha : WR a) (hb : WR b) (hv : a.1 ≤ a.2) (hu : b.1 ≤ b.2) (n0 : (s.toList == [43]) = false) (n1 : (s.toList == [42]) = false) (n2 : (s.toList == [60, 60]) = false) (n3 : (s.toList == [45]) = false) (n4 : (s.toList == [47]) = true) (hp : a.1 = a.2) (hq : ¬ b.1 = b.2) (h : ¬ b.2 = 0) (w : World) :
    Calls Try.prog 10 #[.string s, .agg #[.int .u64 a.1, .int .u64 a.2], .agg #[.int .u64 b.1, .int .u64 b.2]] w fun e w' => e = optE (opB s.toList a b) ∧ Below w.heap.size w w' := by
  have HE : opB s.toList a b = some (a.1 / b.2, a.2 / max b.1 1) := by
    rw [opB_of (r := ((divR a.1 b.2).1, a.2 / max b.1 1)) (e := (divR a.1 b.2).2) hv hu (by unfold resB; rw [if_neg (by omega)]; rw [if_neg (by simp only [n0, n1, n2]; decide), if_neg (by rw [n3]; decide), if_pos n4])]
    rw [show divR a.1 b.2 = (a.1 / b.2, 0) from if_neg h]; rfl
  rw [HE]
  clear HE
  have hw0 := fun w' => refOp_any s a.1 b.1 ha.1 hb.1 w'
  have hw1 := fun w' => refOp_any s a.2 b.2 ha.2 hb.2 w'
  have w1 := ha.1.1
  have w2 := ha.1.2
  have w3 := ha.2.1
  have w4 := ha.2.2
  have w5 := hb.1.1
  have w6 := hb.1.2
  have w7 := hb.2.1
  have w8 := hb.2.2
  obtain ⟨y1, y2⟩ := div_le ha.1 hb.2.1
  have hmx : 1 ≤ max b.1 1 ∧ 0 ≤ max b.1 1 := by omega
  obtain ⟨z1, z2⟩ := div_le ha.2 hmx.2
  have HG0 := fun w' => greater_any b.1 1 w'
  generalize max b.1 1 = mx at *
  obtain ⟨a0, a1⟩ := a
  obtain ⟨b0, b1⟩ := b
  simp only at *
  subst hp
  have HA0 := Lib.hid ha
  generalize hr0 : opR s.toList a0 b0 = r at *
  obtain ⟨r1, r2⟩ := r
  generalize hr1 : opR s.toList a0 b1 = q at *
  obtain ⟨q1, q2⟩ := q
  have HO : Hid (∀ w', Calls Try.prog 25 #[.string s, .int .u64 a0, .int .u64 b0] w' fun e w'' => e = .returned (.tuple #[.int .u64 r1, .int .i64 r2]) ∧ Below w'.heap.size w' w'') := Lib.hid hw0
  have HO1 : Hid (∀ w', Calls Try.prog 25 #[.string s, .int .u64 a0, .int .u64 b1] w' fun e w'' => e = .returned (.tuple #[.int .u64 q1, .int .i64 q2]) ∧ Below w'.heap.size w' w'') := Lib.hid hw1
  clear hw0 hw1 hr0 hr1 ha hb
  have hv1 : ¬ (a0 < a0) := by omega
  have hu1 : ¬ (b1 < b0) := by omega
  have HG := Lib.hid HG0
  clear HG0
  have h1 : (b1 == 0) = false := by simpa using h
  have h2 : (mx == 0) = false := by rw [beq_eq_false_iff_ne]; omega
  have h3 : ¬ mx = 0 := by omega
  obtain ⟨-, m1⟩ := hmx
  have q3 : IntKind.u64.wrap (a0.tdiv b1) = a0 / b1 := by rw [Int.tdiv_eq_ediv_of_nonneg w1, IntKind.wrap_u64]; omega
  have q4 : IntKind.u64.wrap (a0.tdiv mx) = a0 / mx := by rw [Int.tdiv_eq_ediv_of_nonneg w3, IntKind.wrap_u64]; omega
  have T0 := Lib.hid (Tri2.new w a0 a0 b0 b1)
  have B0 := Lib.hid (three_below w (.cells #[.int .u64 a0, .int .u64 a0] 26) (.cells #[.int .u64 b0, .int .u64 b1] 26) (.cells #[.int .u64 0, .int .u64 0] 26))
  obtain ⟨c0, c1, c2, c3, c4, c5, f0, f1⟩ := T0.out.cells
  go_enter Try.func10, Try.ntmps10
  go_upto_region 1 with fail
  generalize ((w.alloc (.cells #[.int .u64 a0, .int .u64 a0] 26)).alloc (.cells #[.int .u64 b0, .int .u64 b1] 26)).alloc (.cells #[.int .u64 0, .int .u64 0] 26) = W at *
  have hlt := T0.out.lt
  go_wp2_with (first | (go_at_call_of 25 b0; refine (HO.out _).mono ?_; rintro e w' ⟨rfl, hb1⟩; replace T0 := Lib.hid (T0.out.below hb1 T0.out.lt); replace B0 := Lib.hid (chain2 B0.out hb1); clear hb1; obtain ⟨c0, c1, c2, c3, c4, c5, f0, f1⟩ := T0.out.cells) | (go_at_call_of 25 b1; refine (HO1.out _).mono ?_; rintro e w' ⟨rfl, hb1⟩; replace T0 := Lib.hid (T0.out.below hb1 T0.out.lt); replace B0 := Lib.hid (chain2 B0.out hb1); clear hb1; obtain ⟨c0, c1, c2, c3, c4, c5, f0, f1⟩ := T0.out.cells) | (go_at_call 26; refine (HG.out _).mono ?_; rintro e w' ⟨rfl, rfl⟩))
  all_goals
    go_still_tail 10, (by kernel_rfl)
    change wpList _ _ _ _ _ (World.drew w')
    replace T0 : Hid (Tri2 (World.drew w') w.heap.size a0 a0 b0 b1 0 0) := Lib.hid ⟨T0.out.d0, T0.out.d1, T0.out.d2⟩
    replace B0 : Hid (Below w.heap.size w (World.drew w')) := Lib.hid ⟨B0.out.os, B0.out.tape, B0.out.output, B0.out.size, B0.out.block⟩
    generalize World.drew w' = W3 at *
    obtain ⟨c0, c1, c2, c3, c4, c5, f0, f1⟩ := T0.out.cells
    go_wp2_with fail
  all_goals
    have q := T0.out.set (.int .u64 (a0 / b1)) (.int .u64 (a0 / mx))
    exact bodyPost_ret (v := .tuple #[.agg #[.int .u64 (a0 / b1), .int .u64 (a0 / mx)], .bool true]) (by simp [results, Try.results10, go_sem, q.1, q.2]) rfl ⟨rfl, (B0.out.setCell (p := ⟨w.heap.size + 1 + 1, 0, none⟩) (by show w.heap.size ≤ w.heap.size + 1 + 1; omega) _).setCell (p := ⟨w.heap.size + 1 + 1, 1, none⟩) (by show w.heap.size ≤ w.heap.size + 1 + 1; omega) _⟩
end Go.Proofs.Ytoengahfkfmfeaa
