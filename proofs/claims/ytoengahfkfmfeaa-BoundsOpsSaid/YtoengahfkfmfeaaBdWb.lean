/- Contracts of layer 11: the document's Op, case by case. -/
import Derived.Test.YtoengahfkfmfeaaBdW
set_option linter.unusedVariables false
set_option linter.unusedSimpArgs false
namespace Go.Proofs.Ytoengahfkfmfeaa
open Go.ChangeShapes Go.WideShapes Go.ChangeAt Go.RowKit

set_option maxRecDepth 100000 in
set_option maxHeartbeats 2000000 in
theorem refOp_mul_noA (s : ByteArray) (a b : Int × Int) (ha : WR a) (hb : WR b) (hv : a.1 ≤ a.2) (hu : b.1 ≤ b.2) (n0 : (s.toList == [43]) = false) (n1 : (s.toList == [42]) = true) (hp : ¬ a.1 = a.2) (he : (opR s.toList a.1 b.1).2 ≠ 0) (w : World) :
    Calls Try.prog 10 #[.string s, .agg #[.int .u64 a.1, .int .u64 a.2], .agg #[.int .u64 b.1, .int .u64 b.2]] w fun e w' => e = optE (opB s.toList a b) ∧ Below w.heap.size w w' := by
  have HE : opB s.toList a b = none := by
    rw [opB_of (r := ((opR s.toList a.1 b.1).1, highB s.toList a b)) (e := (opR s.toList a.1 b.1).2) hv hu (by unfold resB; rw [if_neg (by omega)]; rw [if_pos (by simp only [n1, true_or, or_true])])]
    rw [if_neg he]
  rw [HE]
  clear HE
  have hw0 := fun w' => refOp_any s a.1 b.1 ha.1 hb.1 w'
  have hw1 := fun w' => refOp_any s a.2 b.2 ha.2 hb.2 w'
  obtain ⟨a0, a1⟩ := a
  obtain ⟨b0, b1⟩ := b
  simp only at *
  have HA0 := Lib.hid ha
  generalize hr0 : opR s.toList a0 b0 = r at *
  obtain ⟨r1, r2⟩ := r
  generalize hr1 : opR s.toList a1 b1 = q at *
  obtain ⟨q1, q2⟩ := q
  have HO : Hid (∀ w', Calls Try.prog 25 #[.string s, .int .u64 a0, .int .u64 b0] w' fun e w'' => e = .returned (.tuple #[.int .u64 r1, .int .i64 r2]) ∧ Below w'.heap.size w' w'') := Lib.hid hw0
  have HO1 : Hid (∀ w', Calls Try.prog 25 #[.string s, .int .u64 a1, .int .u64 b1] w' fun e w'' => e = .returned (.tuple #[.int .u64 q1, .int .i64 q2]) ∧ Below w'.heap.size w' w'') := Lib.hid hw1
  clear hw0 hw1 hr0 hr1 ha hb
  have hv1 : ¬ (a1 < a0) := by omega
  have hu1 : ¬ (b1 < b0) := by omega
  have he1 : (r2 != 0) = true := by simpa using he
  clear he
  have T0 := Lib.hid (Tri2.new w a0 a1 b0 b1)
  have B0 := Lib.hid (three_below w (.cells #[.int .u64 a0, .int .u64 a1] 26) (.cells #[.int .u64 b0, .int .u64 b1] 26) (.cells #[.int .u64 0, .int .u64 0] 26))
  obtain ⟨c0, c1, c2, c3, c4, c5, f0, f1⟩ := T0.out.cells
  go_enter Try.func10, Try.ntmps10
  go_upto_region 1 with fail
  generalize ((w.alloc (.cells #[.int .u64 a0, .int .u64 a1] 26)).alloc (.cells #[.int .u64 b0, .int .u64 b1] 26)).alloc (.cells #[.int .u64 0, .int .u64 0] 26) = W at *
  have hlt := T0.out.lt
  go_wp2_with (first | (go_at_call_of 25 b0; refine (HO.out _).mono ?_; rintro e w' ⟨rfl, hb1⟩; replace T0 := Lib.hid (T0.out.below hb1 T0.out.lt); replace B0 := Lib.hid (chain2 B0.out hb1); clear hb1; obtain ⟨c0, c1, c2, c3, c4, c5, f0, f1⟩ := T0.out.cells) | (go_at_call_of 25 b1; refine (HO1.out _).mono ?_; rintro e w' ⟨rfl, hb1⟩; replace T0 := Lib.hid (T0.out.below hb1 T0.out.lt); replace B0 := Lib.hid (chain2 B0.out hb1); clear hb1; obtain ⟨c0, c1, c2, c3, c4, c5, f0, f1⟩ := T0.out.cells))
  all_goals
    have q := T0.out.set (.int .u64 0) (.int .u64 0)
    exact bodyPost_ret (v := .tuple #[.agg #[.int .u64 0, .int .u64 0], .bool false]) (by simp [results, Try.results10, go_sem, q.1, q.2]) rfl ⟨rfl, (B0.out.setCell (p := ⟨w.heap.size + 1 + 1, 0, none⟩) (by show w.heap.size ≤ w.heap.size + 1 + 1; omega) _).setCell (p := ⟨w.heap.size + 1 + 1, 1, none⟩) (by show w.heap.size ≤ w.heap.size + 1 + 1; omega) _⟩
set_option maxRecDepth 100000 in
set_option maxHeartbeats 2000000 in
theorem refOp_mul_okA (s : ByteArray) (a b : Int × Int) (ha : WR a) (hb : WR b) (hv : a.1 ≤ a.2) (hu : b.1 ≤ b.2) (n0 : (s.toList == [43]) = false) (n1 : (s.toList == [42]) = true) (hp : ¬ a.1 = a.2) (he : (opR s.toList a.1 b.1).2 = 0) (hf : (opR s.toList a.2 b.2).2 = 0) (w : World) :
    Calls Try.prog 10 #[.string s, .agg #[.int .u64 a.1, .int .u64 a.2], .agg #[.int .u64 b.1, .int .u64 b.2]] w fun e w' => e = optE (opB s.toList a b) ∧ Below w.heap.size w w' := by
  have HE : opB s.toList a b = some ((opR s.toList a.1 b.1).1, (opR s.toList a.2 b.2).1) := by
    rw [opB_of (r := ((opR s.toList a.1 b.1).1, highB s.toList a b)) (e := (opR s.toList a.1 b.1).2) hv hu (by unfold resB; rw [if_neg (by omega)]; rw [if_pos (by simp only [n1, true_or, or_true])])]
    rw [if_pos he]; unfold highB; rw [if_pos hf]
  rw [HE]
  clear HE
  have hw0 := fun w' => refOp_any s a.1 b.1 ha.1 hb.1 w'
  have hw1 := fun w' => refOp_any s a.2 b.2 ha.2 hb.2 w'
  obtain ⟨a0, a1⟩ := a
  obtain ⟨b0, b1⟩ := b
  simp only at *
  have HA0 := Lib.hid ha
  generalize hr0 : opR s.toList a0 b0 = r at *
  obtain ⟨r1, r2⟩ := r
  generalize hr1 : opR s.toList a1 b1 = q at *
  obtain ⟨q1, q2⟩ := q
  have HO : Hid (∀ w', Calls Try.prog 25 #[.string s, .int .u64 a0, .int .u64 b0] w' fun e w'' => e = .returned (.tuple #[.int .u64 r1, .int .i64 r2]) ∧ Below w'.heap.size w' w'') := Lib.hid hw0
  have HO1 : Hid (∀ w', Calls Try.prog 25 #[.string s, .int .u64 a1, .int .u64 b1] w' fun e w'' => e = .returned (.tuple #[.int .u64 q1, .int .i64 q2]) ∧ Below w'.heap.size w' w'') := Lib.hid hw1
  clear hw0 hw1 hr0 hr1 ha hb
  have hv1 : ¬ (a1 < a0) := by omega
  have hu1 : ¬ (b1 < b0) := by omega
  subst he
  subst hf
  have T0 := Lib.hid (Tri2.new w a0 a1 b0 b1)
  have B0 := Lib.hid (three_below w (.cells #[.int .u64 a0, .int .u64 a1] 26) (.cells #[.int .u64 b0, .int .u64 b1] 26) (.cells #[.int .u64 0, .int .u64 0] 26))
  obtain ⟨c0, c1, c2, c3, c4, c5, f0, f1⟩ := T0.out.cells
  go_enter Try.func10, Try.ntmps10
  go_upto_region 1 with fail
  generalize ((w.alloc (.cells #[.int .u64 a0, .int .u64 a1] 26)).alloc (.cells #[.int .u64 b0, .int .u64 b1] 26)).alloc (.cells #[.int .u64 0, .int .u64 0] 26) = W at *
  have hlt := T0.out.lt
  go_wp2_with (first | (go_at_call_of 25 b0; refine (HO.out _).mono ?_; rintro e w' ⟨rfl, hb1⟩; replace T0 := Lib.hid (T0.out.below hb1 T0.out.lt); replace B0 := Lib.hid (chain2 B0.out hb1); clear hb1; obtain ⟨c0, c1, c2, c3, c4, c5, f0, f1⟩ := T0.out.cells) | (go_at_call_of 25 b1; refine (HO1.out _).mono ?_; rintro e w' ⟨rfl, hb1⟩; replace T0 := Lib.hid (T0.out.below hb1 T0.out.lt); replace B0 := Lib.hid (chain2 B0.out hb1); clear hb1; obtain ⟨c0, c1, c2, c3, c4, c5, f0, f1⟩ := T0.out.cells))
  all_goals
    have q := T0.out.set (.int .u64 r1) (.int .u64 q1)
    exact bodyPost_ret (v := .tuple #[.agg #[.int .u64 r1, .int .u64 q1], .bool true]) (by simp [results, Try.results10, go_sem, q.1, q.2]) rfl ⟨rfl, (B0.out.setCell (p := ⟨w.heap.size + 1 + 1, 0, none⟩) (by show w.heap.size ≤ w.heap.size + 1 + 1; omega) _).setCell (p := ⟨w.heap.size + 1 + 1, 1, none⟩) (by show w.heap.size ≤ w.heap.size + 1 + 1; omega) _⟩
set_option maxRecDepth 100000 in
set_option maxHeartbeats 2000000 in
theorem refOp_mul_upA (s : ByteArray) (a b : Int × Int) (ha : WR a) (hb : WR b) (hv : a.1 ≤ a.2) (hu : b.1 ≤ b.2) (n0 : (s.toList == [43]) = false) (n1 : (s.toList == [42]) = true) (hp : ¬ a.1 = a.2) (he : (opR s.toList a.1 b.1).2 = 0) (hf : (opR s.toList a.2 b.2).2 ≠ 0) (w : World) :
    Calls Try.prog 10 #[.string s, .agg #[.int .u64 a.1, .int .u64 a.2], .agg #[.int .u64 b.1, .int .u64 b.2]] w fun e w' => e = optE (opB s.toList a b) ∧ Below w.heap.size w w' := by
  have HE : opB s.toList a b = some ((opR s.toList a.1 b.1).1, 18446744073709551615) := by
    rw [opB_of (r := ((opR s.toList a.1 b.1).1, highB s.toList a b)) (e := (opR s.toList a.1 b.1).2) hv hu (by unfold resB; rw [if_neg (by omega)]; rw [if_pos (by simp only [n1, true_or, or_true])])]
    rw [if_pos he]; unfold highB; rw [if_neg hf]
  rw [HE]
  clear HE
  have hw0 := fun w' => refOp_any s a.1 b.1 ha.1 hb.1 w'
  have hw1 := fun w' => refOp_any s a.2 b.2 ha.2 hb.2 w'
  obtain ⟨a0, a1⟩ := a
  obtain ⟨b0, b1⟩ := b
  simp only at *
  have HA0 := Lib.hid ha
  generalize hr0 : opR s.toList a0 b0 = r at *
  obtain ⟨r1, r2⟩ := r
  generalize hr1 : opR s.toList a1 b1 = q at *
  obtain ⟨q1, q2⟩ := q
  have HO : Hid (∀ w', Calls Try.prog 25 #[.string s, .int .u64 a0, .int .u64 b0] w' fun e w'' => e = .returned (.tuple #[.int .u64 r1, .int .i64 r2]) ∧ Below w'.heap.size w' w'') := Lib.hid hw0
  have HO1 : Hid (∀ w', Calls Try.prog 25 #[.string s, .int .u64 a1, .int .u64 b1] w' fun e w'' => e = .returned (.tuple #[.int .u64 q1, .int .i64 q2]) ∧ Below w'.heap.size w' w'') := Lib.hid hw1
  clear hw0 hw1 hr0 hr1 ha hb
  have hv1 : ¬ (a1 < a0) := by omega
  have hu1 : ¬ (b1 < b0) := by omega
  subst he
  have hf1 : (q2 != 0) = true := by simpa using hf
  clear hf
  have T0 := Lib.hid (Tri2.new w a0 a1 b0 b1)
  have B0 := Lib.hid (three_below w (.cells #[.int .u64 a0, .int .u64 a1] 26) (.cells #[.int .u64 b0, .int .u64 b1] 26) (.cells #[.int .u64 0, .int .u64 0] 26))
  obtain ⟨c0, c1, c2, c3, c4, c5, f0, f1⟩ := T0.out.cells
  go_enter Try.func10, Try.ntmps10
  go_upto_region 1 with fail
  generalize ((w.alloc (.cells #[.int .u64 a0, .int .u64 a1] 26)).alloc (.cells #[.int .u64 b0, .int .u64 b1] 26)).alloc (.cells #[.int .u64 0, .int .u64 0] 26) = W at *
  have hlt := T0.out.lt
  go_wp2_with (first | (go_at_call_of 25 b0; refine (HO.out _).mono ?_; rintro e w' ⟨rfl, hb1⟩; replace T0 := Lib.hid (T0.out.below hb1 T0.out.lt); replace B0 := Lib.hid (chain2 B0.out hb1); clear hb1; obtain ⟨c0, c1, c2, c3, c4, c5, f0, f1⟩ := T0.out.cells) | (go_at_call_of 25 b1; refine (HO1.out _).mono ?_; rintro e w' ⟨rfl, hb1⟩; replace T0 := Lib.hid (T0.out.below hb1 T0.out.lt); replace B0 := Lib.hid (chain2 B0.out hb1); clear hb1; obtain ⟨c0, c1, c2, c3, c4, c5, f0, f1⟩ := T0.out.cells))
  all_goals
    have q := T0.out.set (.int .u64 r1) (.int .u64 18446744073709551615)
    exact bodyPost_ret (v := .tuple #[.agg #[.int .u64 r1, .int .u64 18446744073709551615], .bool true]) (by simp [results, Try.results10, go_sem, q.1, q.2]) rfl ⟨rfl, (B0.out.setCell (p := ⟨w.heap.size + 1 + 1, 0, none⟩) (by show w.heap.size ≤ w.heap.size + 1 + 1; omega) _).setCell (p := ⟨w.heap.size + 1 + 1, 1, none⟩) (by show w.heap.size ≤ w.heap.size + 1 + 1; omega) _⟩
set_option maxRecDepth 100000 in
set_option maxHeartbeats 2000000 in
theorem refOp_mul_noB (s : ByteArray) (a b : Int × Int) (ha : WR a) (hb : WR b) (hv : a.1 ≤ a.2) (hu : b.1 ≤ b.2) (n0 : (s.toList == [43]) = false) (n1 : (s.toList == [42]) = true) (hp : a.1 = a.2) (hq : ¬ b.1 = b.2) (he : (opR s.toList a.1 b.1).2 ≠ 0) (w : World) :
    Calls Try.prog 10 #[.string s, .agg #[.int .u64 a.1, .int .u64 a.2], .agg #[.int .u64 b.1, .int .u64 b.2]] w fun e w' => e = optE (opB s.toList a b) ∧ Below w.heap.size w w' := by
  have HE : opB s.toList a b = none := by
    rw [opB_of (r := ((opR s.toList a.1 b.1).1, highB s.toList a b)) (e := (opR s.toList a.1 b.1).2) hv hu (by unfold resB; rw [if_neg (by omega)]; rw [if_pos (by simp only [n1, true_or, or_true])])]
    rw [if_neg he]
  rw [HE]
  clear HE
  have hw0 := fun w' => refOp_any s a.1 b.1 ha.1 hb.1 w'
  have hw1 := fun w' => refOp_any s a.2 b.2 ha.2 hb.2 w'
  obtain ⟨a0, a1⟩ := a
  obtain ⟨b0, b1⟩ := b
  simp only at *
  subst hp
  have HA0 := Lib.hid ha
  generalize hr0 : opR s.toList a0 b0 = r at *
  obtain ⟨r1, r2⟩ := r
  generalize hr1 : opR s.toList a0 b1 = q at *
  obtain ⟨q1, q2⟩ := q
  have HO : Hid (∀ w', Calls Try.prog 25 #[.string s, .int .u64 a0, .int .u64 b0] w' fun e w'' => e = .returned (.tuple #[.int .u64 r1, .int .i64 r2]) ∧ Below w'.heap.size w' w'') := Lib.hid hw0
  have HO1 : Hid (∀ w', Calls Try.prog 25 #[.string s, .int .u64 a0, .int .u64 b1] w' fun e w'' => e = .returned (.tuple #[.int .u64 q1, .int .i64 q2]) ∧ Below w'.heap.size w' w'') := Lib.hid hw1
  clear hw0 hw1 hr0 hr1 ha hb
  have hv1 : ¬ (a0 < a0) := by omega
  have hu1 : ¬ (b1 < b0) := by omega
  have he1 : (r2 != 0) = true := by simpa using he
  clear he
  have T0 := Lib.hid (Tri2.new w a0 a0 b0 b1)
  have B0 := Lib.hid (three_below w (.cells #[.int .u64 a0, .int .u64 a0] 26) (.cells #[.int .u64 b0, .int .u64 b1] 26) (.cells #[.int .u64 0, .int .u64 0] 26))
  obtain ⟨c0, c1, c2, c3, c4, c5, f0, f1⟩ := T0.out.cells
  go_enter Try.func10, Try.ntmps10
  go_upto_region 1 with fail
  generalize ((w.alloc (.cells #[.int .u64 a0, .int .u64 a0] 26)).alloc (.cells #[.int .u64 b0, .int .u64 b1] 26)).alloc (.cells #[.int .u64 0, .int .u64 0] 26) = W at *
  have hlt := T0.out.lt
  go_wp2_with (first | (go_at_call_of 25 b0; refine (HO.out _).mono ?_; rintro e w' ⟨rfl, hb1⟩; replace T0 := Lib.hid (T0.out.below hb1 T0.out.lt); replace B0 := Lib.hid (chain2 B0.out hb1); clear hb1; obtain ⟨c0, c1, c2, c3, c4, c5, f0, f1⟩ := T0.out.cells) | (go_at_call_of 25 b1; refine (HO1.out _).mono ?_; rintro e w' ⟨rfl, hb1⟩; replace T0 := Lib.hid (T0.out.below hb1 T0.out.lt); replace B0 := Lib.hid (chain2 B0.out hb1); clear hb1; obtain ⟨c0, c1, c2, c3, c4, c5, f0, f1⟩ := T0.out.cells))
  all_goals
    have q := T0.out.set (.int .u64 0) (.int .u64 0)
    exact bodyPost_ret (v := .tuple #[.agg #[.int .u64 0, .int .u64 0], .bool false]) (by simp [results, Try.results10, go_sem, q.1, q.2]) rfl ⟨rfl, (B0.out.setCell (p := ⟨w.heap.size + 1 + 1, 0, none⟩) (by show w.heap.size ≤ w.heap.size + 1 + 1; omega) _).setCell (p := ⟨w.heap.size + 1 + 1, 1, none⟩) (by show w.heap.size ≤ w.heap.size + 1 + 1; omega) _⟩
set_option maxRecDepth 100000 in
set_option maxHeartbeats 2000000 in
theorem refOp_mul_okB (s : ByteArray) (a b : Int × Int) (ha : WR a) (hb : WR b) (hv : a.1 ≤ a.2) (hu : b.1 ≤ b.2) (n0 : (s.toList == [43]) = false) (n1 : (s.toList == [42]) = true) (hp : a.1 = a.2) (hq : ¬ b.1 = b.2) (he : (opR s.toList a.1 b.1).2 = 0) (hf : (opR s.toList a.2 b.2).2 = 0) (w : World) :
    Calls Try.prog 10 #[.string s, .agg #[.int .u64 a.1, .int .u64 a.2], .agg #[.int .u64 b.1, .int .u64 b.2]] w fun e w' => e = optE (opB s.toList a b) ∧ Below w.heap.size w w' := by
  have HE : opB s.toList a b = some ((opR s.toList a.1 b.1).1, (opR s.toList a.2 b.2).1) := by
    rw [opB_of (r := ((opR s.toList a.1 b.1).1, highB s.toList a b)) (e := (opR s.toList a.1 b.1).2) hv hu (by unfold resB; rw [if_neg (by omega)]; rw [if_pos (by simp only [n1, true_or, or_true])])]
    rw [if_pos he]; unfold highB; rw [if_pos hf]
  rw [HE]
  clear HE
  have hw0 := fun w' => refOp_any s a.1 b.1 ha.1 hb.1 w'
  have hw1 := fun w' => refOp_any s a.2 b.2 ha.2 hb.2 w'
  obtain ⟨a0, a1⟩ := a
  obtain ⟨b0, b1⟩ := b
  simp only at *
  subst hp
  have HA0 := Lib.hid ha
  generalize hr0 : opR s.toList a0 b0 = r at *
  obtain ⟨r1, r2⟩ := r
  generalize hr1 : opR s.toList a0 b1 = q at *
  obtain ⟨q1, q2⟩ := q
  have HO : Hid (∀ w', Calls Try.prog 25 #[.string s, .int .u64 a0, .int .u64 b0] w' fun e w'' => e = .returned (.tuple #[.int .u64 r1, .int .i64 r2]) ∧ Below w'.heap.size w' w'') := Lib.hid hw0
  have HO1 : Hid (∀ w', Calls Try.prog 25 #[.string s, .int .u64 a0, .int .u64 b1] w' fun e w'' => e = .returned (.tuple #[.int .u64 q1, .int .i64 q2]) ∧ Below w'.heap.size w' w'') := Lib.hid hw1
  clear hw0 hw1 hr0 hr1 ha hb
  have hv1 : ¬ (a0 < a0) := by omega
  have hu1 : ¬ (b1 < b0) := by omega
  subst he
  subst hf
  have T0 := Lib.hid (Tri2.new w a0 a0 b0 b1)
  have B0 := Lib.hid (three_below w (.cells #[.int .u64 a0, .int .u64 a0] 26) (.cells #[.int .u64 b0, .int .u64 b1] 26) (.cells #[.int .u64 0, .int .u64 0] 26))
  obtain ⟨c0, c1, c2, c3, c4, c5, f0, f1⟩ := T0.out.cells
  go_enter Try.func10, Try.ntmps10
  go_upto_region 1 with fail
  generalize ((w.alloc (.cells #[.int .u64 a0, .int .u64 a0] 26)).alloc (.cells #[.int .u64 b0, .int .u64 b1] 26)).alloc (.cells #[.int .u64 0, .int .u64 0] 26) = W at *
  have hlt := T0.out.lt
  go_wp2_with (first | (go_at_call_of 25 b0; refine (HO.out _).mono ?_; rintro e w' ⟨rfl, hb1⟩; replace T0 := Lib.hid (T0.out.below hb1 T0.out.lt); replace B0 := Lib.hid (chain2 B0.out hb1); clear hb1; obtain ⟨c0, c1, c2, c3, c4, c5, f0, f1⟩ := T0.out.cells) | (go_at_call_of 25 b1; refine (HO1.out _).mono ?_; rintro e w' ⟨rfl, hb1⟩; replace T0 := Lib.hid (T0.out.below hb1 T0.out.lt); replace B0 := Lib.hid (chain2 B0.out hb1); clear hb1; obtain ⟨c0, c1, c2, c3, c4, c5, f0, f1⟩ := T0.out.cells))
  all_goals
    have q := T0.out.set (.int .u64 r1) (.int .u64 q1)
    exact bodyPost_ret (v := .tuple #[.agg #[.int .u64 r1, .int .u64 q1], .bool true]) (by simp [results, Try.results10, go_sem, q.1, q.2]) rfl ⟨rfl, (B0.out.setCell (p := ⟨w.heap.size + 1 + 1, 0, none⟩) (by show w.heap.size ≤ w.heap.size + 1 + 1; omega) _).setCell (p := ⟨w.heap.size + 1 + 1, 1, none⟩) (by show w.heap.size ≤ w.heap.size + 1 + 1; omega) _⟩
set_option maxRecDepth 100000 in
set_option maxHeartbeats 2000000 in
theorem refOp_mul_upB (s : ByteArray) (a b : Int × Int) (ha : WR a) (hb : WR b) (hv : a.1 ≤ a.2) (hu : b.1 ≤ b.2) (n0 : (s.toList == [43]) = false) (n1 : (s.toList == [42]) = true) (hp : a.1 = a.2) (hq : ¬ b.1 = b.2) (he : (opR s.toList a.1 b.1).2 = 0) (hf : (opR s.toList a.2 b.2).2 ≠ 0) (w : World) :
    Calls Try.prog 10 #[.string s, .agg #[.int .u64 a.1, .int .u64 a.2], .agg #[.int .u64 b.1, .int .u64 b.2]] w fun e w' => e = optE (opB s.toList a b) ∧ Below w.heap.size w w' := by
  have HE : opB s.toList a b = some ((opR s.toList a.1 b.1).1, 18446744073709551615) := by
    rw [opB_of (r := ((opR s.toList a.1 b.1).1, highB s.toList a b)) (e := (opR s.toList a.1 b.1).2) hv hu (by unfold resB; rw [if_neg (by omega)]; rw [if_pos (by simp only [n1, true_or, or_true])])]
    rw [if_pos he]; unfold highB; rw [if_neg hf]
  rw [HE]
  clear HE
  have hw0 := fun w' => refOp_any s a.1 b.1 ha.1 hb.1 w'
  have hw1 := fun w' => refOp_any s a.2 b.2 ha.2 hb.2 w'
  obtain ⟨a0, a1⟩ := a
  obtain ⟨b0, b1⟩ := b
  simp only at *
  subst hp
  have HA0 := Lib.hid ha
  generalize hr0 : opR s.toList a0 b0 = r at *
  obtain ⟨r1, r2⟩ := r
  generalize hr1 : opR s.toList a0 b1 = q at *
  obtain ⟨q1, q2⟩ := q
  have HO : Hid (∀ w', Calls Try.prog 25 #[.string s, .int .u64 a0, .int .u64 b0] w' fun e w'' => e = .returned (.tuple #[.int .u64 r1, .int .i64 r2]) ∧ Below w'.heap.size w' w'') := Lib.hid hw0
  have HO1 : Hid (∀ w', Calls Try.prog 25 #[.string s, .int .u64 a0, .int .u64 b1] w' fun e w'' => e = .returned (.tuple #[.int .u64 q1, .int .i64 q2]) ∧ Below w'.heap.size w' w'') := Lib.hid hw1
  clear hw0 hw1 hr0 hr1 ha hb
  have hv1 : ¬ (a0 < a0) := by omega
  have hu1 : ¬ (b1 < b0) := by omega
  subst he
  have hf1 : (q2 != 0) = true := by simpa using hf
  clear hf
  have T0 := Lib.hid (Tri2.new w a0 a0 b0 b1)
  have B0 := Lib.hid (three_below w (.cells #[.int .u64 a0, .int .u64 a0] 26) (.cells #[.int .u64 b0, .int .u64 b1] 26) (.cells #[.int .u64 0, .int .u64 0] 26))
  obtain ⟨c0, c1, c2, c3, c4, c5, f0, f1⟩ := T0.out.cells
  go_enter Try.func10, Try.ntmps10
  go_upto_region 1 with fail
  generalize ((w.alloc (.cells #[.int .u64 a0, .int .u64 a0] 26)).alloc (.cells #[.int .u64 b0, .int .u64 b1] 26)).alloc (.cells #[.int .u64 0, .int .u64 0] 26) = W at *
  have hlt := T0.out.lt
  go_wp2_with (first | (go_at_call_of 25 b0; refine (HO.out _).mono ?_; rintro e w' ⟨rfl, hb1⟩; replace T0 := Lib.hid (T0.out.below hb1 T0.out.lt); replace B0 := Lib.hid (chain2 B0.out hb1); clear hb1; obtain ⟨c0, c1, c2, c3, c4, c5, f0, f1⟩ := T0.out.cells) | (go_at_call_of 25 b1; refine (HO1.out _).mono ?_; rintro e w' ⟨rfl, hb1⟩; replace T0 := Lib.hid (T0.out.below hb1 T0.out.lt); replace B0 := Lib.hid (chain2 B0.out hb1); clear hb1; obtain ⟨c0, c1, c2, c3, c4, c5, f0, f1⟩ := T0.out.cells))
  all_goals
    have q := T0.out.set (.int .u64 r1) (.int .u64 18446744073709551615)
    exact bodyPost_ret (v := .tuple #[.agg #[.int .u64 r1, .int .u64 18446744073709551615], .bool true]) (by simp [results, Try.results10, go_sem, q.1, q.2]) rfl ⟨rfl, (B0.out.setCell (p := ⟨w.heap.size + 1 + 1, 0, none⟩) (by show w.heap.size ≤ w.heap.size + 1 + 1; omega) _).setCell (p := ⟨w.heap.size + 1 + 1, 1, none⟩) (by show w.heap.size ≤ w.heap.size + 1 + 1; omega) _⟩
end Go.Proofs.Ytoengahfkfmfeaa
