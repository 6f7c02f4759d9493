/- Contracts of layer 11: the document's Op, case by case. -/
import Derived.Test.YtoengahfkfmfeaaBdW
set_option linter.unusedVariables false
set_option linter.unusedSimpArgs false
namespace Go.Proofs.Ytoengahfkfmfeaa
open Go.ChangeShapes Go.WideShapes Go.ChangeAt Go.RowKit

set_option maxRecDepth 100000 in
set_option maxHeartbeats 2000000 in
theorem refOp_shr_noA (s : ByteArray) (a b : Int × Int) (ha : WR a) (hb : WR b) (hv : a.1 ≤ a.2) (hu : b.1 ≤ b.2) (n0 : (s.toList == [43]) = false) (n1 : (s.toList == [42]) = false) (n2 : (s.toList == [60, 60]) = false) (n3 : (s.toList == [45]) = false) (n4 : (s.toList == [47]) = false) (n5 : (s.toList == [37]) = false) (n6 : (s.toList == [62, 62]) = true) (hp : ¬ a.1 = a.2) (h : 63 < b.1) (w : World) :
    Calls Try.prog 10 #[.string s, .agg #[.int .u64 a.1, .int .u64 a.2], .agg #[.int .u64 b.1, .int .u64 b.2]] w fun e w' => e = optE (opB s.toList a b) ∧ Below w.heap.size w w' := by
  have HE : opB s.toList a b = none := by
    rw [opB_of (r := (a.1 / 2 ^ (min b.2 63).toNat, (shrR a.2 b.1).1)) (e := (shrR a.2 b.1).2) hv hu (by unfold resB; rw [if_neg (by omega)]; rw [if_neg (by simp only [n0, n1, n2]; decide), if_neg (by rw [n3]; decide), if_neg (by rw [n4]; decide), if_neg (by rw [n5]; decide), if_pos n6])]
    rw [show shrR a.2 b.1 = (0, 5) from if_neg (by omega)]; rfl
  rw [HE]
  clear HE
  have hw0 := fun w' => refOp_any s a.1 b.1 ha.1 hb.1 w'
  have hw1 := fun w' => refOp_any s a.2 b.2 ha.2 hb.2 w'
  obtain ⟨a0, a1⟩ := a
  obtain ⟨b0, b1⟩ := b
  simp only at *
  have HA0 := Lib.hid ha
  generalize hr0 : opR s.toList a0 b0 = r at *
  obtain ⟨r1, r2⟩ := r
  generalize hr1 : opR s.toList a1 b1 = q at *
  obtain ⟨q1, q2⟩ := q
  have HO : Hid (∀ w', Calls Try.prog 25 #[.string s, .int .u64 a0, .int .u64 b0] w' fun e w'' => e = .returned (.tuple #[.int .u64 r1, .int .i64 r2]) ∧ Below w'.heap.size w' w'') := Lib.hid hw0
  have HO1 : Hid (∀ w', Calls Try.prog 25 #[.string s, .int .u64 a1, .int .u64 b1] w' fun e w'' => e = .returned (.tuple #[.int .u64 q1, .int .i64 q2]) ∧ Below w'.heap.size w' w'') := Lib.hid hw1
  clear hw0 hw1 hr0 hr1 ha hb
  have hv1 : ¬ (a1 < a0) := by omega
  have hu1 : ¬ (b1 < b0) := by omega
  have T0 := Lib.hid (Tri2.new w a0 a1 b0 b1)
  have B0 := Lib.hid (three_below w (.cells #[.int .u64 a0, .int .u64 a1] 26) (.cells #[.int .u64 b0, .int .u64 b1] 26) (.cells #[.int .u64 0, .int .u64 0] 26))
  obtain ⟨c0, c1, c2, c3, c4, c5, f0, f1⟩ := T0.out.cells
  go_enter Try.func10, Try.ntmps10
  go_upto_region 1 with fail
  generalize ((w.alloc (.cells #[.int .u64 a0, .int .u64 a1] 26)).alloc (.cells #[.int .u64 b0, .int .u64 b1] 26)).alloc (.cells #[.int .u64 0, .int .u64 0] 26) = W at *
  have hlt := T0.out.lt
  go_wp2_with (first | (go_at_call_of 25 b0; refine (HO.out _).mono ?_; rintro e w' ⟨rfl, hb1⟩; replace T0 := Lib.hid (T0.out.below hb1 T0.out.lt); replace B0 := Lib.hid (chain2 B0.out hb1); clear hb1; obtain ⟨c0, c1, c2, c3, c4, c5, f0, f1⟩ := T0.out.cells) | (go_at_call_of 25 b1; refine (HO1.out _).mono ?_; rintro e w' ⟨rfl, hb1⟩; replace T0 := Lib.hid (T0.out.below hb1 T0.out.lt); replace B0 := Lib.hid (chain2 B0.out hb1); clear hb1; obtain ⟨c0, c1, c2, c3, c4, c5, f0, f1⟩ := T0.out.cells))
  all_goals
    have q := T0.out.set (.int .u64 0) (.int .u64 0)
    exact bodyPost_ret (v := .tuple #[.agg #[.int .u64 0, .int .u64 0], .bool false]) (by simp [results, Try.results10, go_sem, q.1, q.2]) rfl ⟨rfl, (B0.out.setCell (p := ⟨w.heap.size + 1 + 1, 0, none⟩) (by show w.heap.size ≤ w.heap.size + 1 + 1; omega) _).setCell (p := ⟨w.heap.size + 1 + 1, 1, none⟩) (by show w.heap.size ≤ w.heap.size + 1 + 1; omega) _⟩
set_option maxRecDepth 100000 in
set_option maxHeartbeats 2000000 in
theorem refOp_shr_okA (s : ByteArray) (a b : Int × Int) (ha : WR a) (hb : WR b) (hv : a.1 ≤ a.2) (hu : b.1 ≤ b.2) (n0 : (s.toList == [43]) = false) (n1 : (s.toList == [42]) = false) (n2 : (s.toList == [60, 60]) = false) (n3 : (s.toList == [45]) = false) (n4 : (s.toList == [47]) = false) (n5 : (s.toList == [37]) = false) (n6 : (s.toList == [62, 62]) = true) (hp : ¬ a.1 = a.2) (h : ¬ 63 < b.1) (w : World) :
    Calls Try.prog 10 #[.string s, .agg #[.int .u64 a.1, .int .u64 a.2], .agg #[.int .u64 b.1, .int .u64 b.2]] w fun e w' => e = optE (opB s.toList a b) ∧ Below w.heap.size w w' := by
  have HE : opB s.toList a b = some ((shrR a.1 (min b.2 63)).1, (shrR a.2 b.1).1) := by
    rw [opB_of (r := (a.1 / 2 ^ (min b.2 63).toNat, (shrR a.2 b.1).1)) (e := (shrR a.2 b.1).2) hv hu (by unfold resB; rw [if_neg (by omega)]; rw [if_neg (by simp only [n0, n1, n2]; decide), if_neg (by rw [n3]; decide), if_neg (by rw [n4]; decide), if_neg (by rw [n5]; decide), if_pos n6])]
    rw [show shrR a.2 b.1 = (a.2 / 2 ^ b.1.toNat, 0) from if_pos (by omega), show shrR a.1 (min b.2 63) = (a.1 / 2 ^ (min b.2 63).toNat, 0) from if_pos (by omega)]; rfl
  rw [HE]
  clear HE
  have hw0 := fun w' => refOp_any s a.1 b.1 ha.1 hb.1 w'
  have hw1 := fun w' => refOp_any s a.2 b.2 ha.2 hb.2 w'
  have HG0 := fun w' => lesser_any b.2 63 w'
  have HS0 := fun w' => refShr_any a.1 (min b.2 63) ha.1 ⟨by have := hb.2.1; omega, by omega⟩ w'
  have HS1 := fun w' => refShr_any a.2 b.1 ha.2 hb.1 w'
  generalize min b.2 63 = mn at *
  generalize shrR a.1 mn = sh0 at *
  generalize shrR a.2 b.1 = sh1 at *
  obtain ⟨s1, s2⟩ := sh0
  obtain ⟨t1, t2⟩ := sh1
  obtain ⟨a0, a1⟩ := a
  obtain ⟨b0, b1⟩ := b
  simp only at *
  have HA0 := Lib.hid ha
  generalize hr0 : opR s.toList a0 b0 = r at *
  obtain ⟨r1, r2⟩ := r
  generalize hr1 : opR s.toList a1 b1 = q at *
  obtain ⟨q1, q2⟩ := q
  have HO : Hid (∀ w', Calls Try.prog 25 #[.string s, .int .u64 a0, .int .u64 b0] w' fun e w'' => e = .returned (.tuple #[.int .u64 r1, .int .i64 r2]) ∧ Below w'.heap.size w' w'') := Lib.hid hw0
  have HO1 : Hid (∀ w', Calls Try.prog 25 #[.string s, .int .u64 a1, .int .u64 b1] w' fun e w'' => e = .returned (.tuple #[.int .u64 q1, .int .i64 q2]) ∧ Below w'.heap.size w' w'') := Lib.hid hw1
  clear hw0 hw1 hr0 hr1 ha hb
  have hv1 : ¬ (a1 < a0) := by omega
  have hu1 : ¬ (b1 < b0) := by omega
  have HG := Lib.hid HG0
  have HS : Hid (∀ w', Calls Try.prog 28 #[.int .u64 a0, .int .u64 mn] w' fun e w'' => e = .returned (.tuple #[.int .u64 s1, .int .i64 s2]) ∧ w' = w'') := Lib.hid HS0
  have HT : Hid (∀ w', Calls Try.prog 28 #[.int .u64 a1, .int .u64 b0] w' fun e w'' => e = .returned (.tuple #[.int .u64 t1, .int .i64 t2]) ∧ w' = w'') := Lib.hid HS1
  clear HG0 HS0 HS1
  have T0 := Lib.hid (Tri2.new w a0 a1 b0 b1)
  have B0 := Lib.hid (three_below w (.cells #[.int .u64 a0, .int .u64 a1] 26) (.cells #[.int .u64 b0, .int .u64 b1] 26) (.cells #[.int .u64 0, .int .u64 0] 26))
  obtain ⟨c0, c1, c2, c3, c4, c5, f0, f1⟩ := T0.out.cells
  go_enter Try.func10, Try.ntmps10
  go_upto_region 1 with fail
  generalize ((w.alloc (.cells #[.int .u64 a0, .int .u64 a1] 26)).alloc (.cells #[.int .u64 b0, .int .u64 b1] 26)).alloc (.cells #[.int .u64 0, .int .u64 0] 26) = W at *
  have hlt := T0.out.lt
  go_wp2_with (first | (go_at_call_of 25 b0; refine (HO.out _).mono ?_; rintro e w' ⟨rfl, hb1⟩; replace T0 := Lib.hid (T0.out.below hb1 T0.out.lt); replace B0 := Lib.hid (chain2 B0.out hb1); clear hb1; obtain ⟨c0, c1, c2, c3, c4, c5, f0, f1⟩ := T0.out.cells) | (go_at_call_of 25 b1; refine (HO1.out _).mono ?_; rintro e w' ⟨rfl, hb1⟩; replace T0 := Lib.hid (T0.out.below hb1 T0.out.lt); replace B0 := Lib.hid (chain2 B0.out hb1); clear hb1; obtain ⟨c0, c1, c2, c3, c4, c5, f0, f1⟩ := T0.out.cells) | (go_at_call 27; refine (HG.out _).mono ?_; rintro e w' ⟨rfl, rfl⟩) | (go_at_call_of 28 mn; refine (HS.out _).mono ?_; rintro e w' ⟨rfl, rfl⟩) | (go_at_call 28; refine (HT.out _).mono ?_; rintro e w' ⟨rfl, rfl⟩))
  all_goals
    have q := T0.out.set (.int .u64 s1) (.int .u64 t1)
    exact bodyPost_ret (v := .tuple #[.agg #[.int .u64 s1, .int .u64 t1], .bool true]) (by simp [results, Try.results10, go_sem, q.1, q.2]) rfl ⟨rfl, (B0.out.setCell (p := ⟨w.heap.size + 1 + 1, 0, none⟩) (by show w.heap.size ≤ w.heap.size + 1 + 1; omega) _).setCell (p := ⟨w.heap.size + 1 + 1, 1, none⟩) (by show w.heap.size ≤ w.heap.size + 1 + 1; omega) _⟩
set_option maxRecDepth 100000 in
set_option maxHeartbeats 2000000 in
theorem refOp_shr_noB (s : ByteArray) (a b : Int × Int) (ha : WR a) (hb : WR b) (hv : a.1 ≤ a.2) (hu : b.1 ≤ b.2) (n0 : (s.toList == [43]) = false) (n1 : (s.toList == [42]) = false) (n2 : (s.toList == [60, 60]) = false) (n3 : (s.toList == [45]) = false) (n4 : (s.toList == [47]) = false) (n5 : (s.toList == [37]) = false) (n6 : (s.toList == [62, 62]) = true) (hp : a.1 = a.2) (hq : ¬ b.1 = b.2) (h : 63 < b.1) (w : World) :
    Calls Try.prog 10 #[.string s, .agg #[.int .u64 a.1, .int .u64 a.2], .agg #[.int .u64 b.1, .int .u64 b.2]] w fun e w' => e = optE (opB s.toList a b) ∧ Below w.heap.size w w' := by
  have HE : opB s.toList a b = none := by
    rw [opB_of (r := (a.1 / 2 ^ (min b.2 63).toNat, (shrR a.2 b.1).1)) (e := (shrR a.2 b.1).2) hv hu (by unfold resB; rw [if_neg (by omega)]; rw [if_neg (by simp only [n0, n1, n2]; decide), if_neg (by rw [n3]; decide), if_neg (by rw [n4]; decide), if_neg (by rw [n5]; decide), if_pos n6])]
    rw [show shrR a.2 b.1 = (0, 5) from if_neg (by omega)]; rfl
  rw [HE]
  clear HE
  have hw0 := fun w' => refOp_any s a.1 b.1 ha.1 hb.1 w'
  have hw1 := fun w' => refOp_any s a.2 b.2 ha.2 hb.2 w'
  obtain ⟨a0, a1⟩ := a
  obtain ⟨b0, b1⟩ := b
  simp only at *
  subst hp
  have HA0 := Lib.hid ha
  generalize hr0 : opR s.toList a0 b0 = r at *
  obtain ⟨r1, r2⟩ := r
  generalize hr1 : opR s.toList a0 b1 = q at *
  obtain ⟨q1, q2⟩ := q
  have HO : Hid (∀ w', Calls Try.prog 25 #[.string s, .int .u64 a0, .int .u64 b0] w' fun e w'' => e = .returned (.tuple #[.int .u64 r1, .int .i64 r2]) ∧ Below w'.heap.size w' w'') := Lib.hid hw0
  have HO1 : Hid (∀ w', Calls Try.prog 25 #[.string s, .int .u64 a0, .int .u64 b1] w' fun e w'' => e = .returned (.tuple #[.int .u64 q1, .int .i64 q2]) ∧ Below w'.heap.size w' w'') := Lib.hid hw1
  clear hw0 hw1 hr0 hr1 ha hb
  have hv1 : ¬ (a0 < a0) := by omega
  have hu1 : ¬ (b1 < b0) := by omega
  have T0 := Lib.hid (Tri2.new w a0 a0 b0 b1)
  have B0 := Lib.hid (three_below w (.cells #[.int .u64 a0, .int .u64 a0] 26) (.cells #[.int .u64 b0, .int .u64 b1] 26) (.cells #[.int .u64 0, .int .u64 0] 26))
  obtain ⟨c0, c1, c2, c3, c4, c5, f0, f1⟩ := T0.out.cells
  go_enter Try.func10, Try.ntmps10
  go_upto_region 1 with fail
  generalize ((w.alloc (.cells #[.int .u64 a0, .int .u64 a0] 26)).alloc (.cells #[.int .u64 b0, .int .u64 b1] 26)).alloc (.cells #[.int .u64 0, .int .u64 0] 26) = W at *
  have hlt := T0.out.lt
  go_wp2_with (first | (go_at_call_of 25 b0; refine (HO.out _).mono ?_; rintro e w' ⟨rfl, hb1⟩; replace T0 := Lib.hid (T0.out.below hb1 T0.out.lt); replace B0 := Lib.hid (chain2 B0.out hb1); clear hb1; obtain ⟨c0, c1, c2, c3, c4, c5, f0, f1⟩ := T0.out.cells) | (go_at_call_of 25 b1; refine (HO1.out _).mono ?_; rintro e w' ⟨rfl, hb1⟩; replace T0 := Lib.hid (T0.out.below hb1 T0.out.lt); replace B0 := Lib.hid (chain2 B0.out hb1); clear hb1; obtain ⟨c0, c1, c2, c3, c4, c5, f0, f1⟩ := T0.out.cells))
  all_goals
    have q := T0.out.set (.int .u64 0) (.int .u64 0)
    exact bodyPost_ret (v := .tuple #[.agg #[.int .u64 0, .int .u64 0], .bool false]) (by simp [results, Try.results10, go_sem, q.1, q.2]) rfl ⟨rfl, (B0.out.setCell (p := ⟨w.heap.size + 1 + 1, 0, none⟩) (by show w.heap.size ≤ w.heap.size + 1 + 1; omega) _).setCell (p := ⟨w.heap.size + 1 + 1, 1, none⟩) (by show w.heap.size ≤ w.heap.size + 1 + 1; omega) _⟩
set_option maxRecDepth 100000 in
set_option maxHeartbeats 2000000 in
theorem refOp_shr_okB (s : ByteArray) (a b : Int × Int) (ha : WR a) (hb : WR b) (hv : a.1 ≤ a.2) (hu : b.1 ≤ b.2) (n0 : (s.toList == [43]) = false) (n1 : (s.toList == [42]) = false) (n2 : (s.toList == [60, 60]) = false) (n3 : (s.toList == [45]) = false) (n4 : (s.toList == [47]) = false) (n5 : (s.toList == [37]) = false) (n6 : (s.toList == [62, 62]) = true) (hp : a.1 = a.2) (hq : ¬ b.1 = b.2) (h : ¬ 63 < b.1) (w : World) :
    Calls Try.prog 10 #[.string s, .agg #[.int .u64 a.1, .int .u64 a.2], .agg #[.int .u64 b.1, .int .u64 b.2]] w fun e w' => e = optE (opB s.toList a b) ∧ Below w.heap.size w w' := by
  have HE : opB s.toList a b = some ((shrR a.1 (min b.2 63)).1, (shrR a.2 b.1).1) := by
    rw [opB_of (r := (a.1 / 2 ^ (min b.2 63).toNat, (shrR a.2 b.1).1)) (e := (shrR a.2 b.1).2) hv hu (by unfold resB; rw [if_neg (by omega)]; rw [if_neg (by simp only [n0, n1, n2]; decide), if_neg (by rw [n3]; decide), if_neg (by rw [n4]; decide), if_neg (by rw [n5]; decide), if_pos n6])]
    rw [show shrR a.2 b.1 = (a.2 / 2 ^ b.1.toNat, 0) from if_pos (by omega), show shrR a.1 (min b.2 63) = (a.1 / 2 ^ (min b.2 63).toNat, 0) from if_pos (by omega)]; rfl
  rw [HE]
  clear HE
  have hw0 := fun w' => refOp_any s a.1 b.1 ha.1 hb.1 w'
  have hw1 := fun w' => refOp_any s a.2 b.2 ha.2 hb.2 w'
  have HG0 := fun w' => lesser_any b.2 63 w'
  have HS0 := fun w' => refShr_any a.1 (min b.2 63) ha.1 ⟨by have := hb.2.1; omega, by omega⟩ w'
  have HS1 := fun w' => refShr_any a.2 b.1 ha.2 hb.1 w'
  generalize min b.2 63 = mn at *
  generalize shrR a.1 mn = sh0 at *
  generalize shrR a.2 b.1 = sh1 at *
  obtain ⟨s1, s2⟩ := sh0
  obtain ⟨t1, t2⟩ := sh1
  obtain ⟨a0, a1⟩ := a
  obtain ⟨b0, b1⟩ := b
  simp only at *
  subst hp
  have HA0 := Lib.hid ha
  generalize hr0 : opR s.toList a0 b0 = r at *
  obtain ⟨r1, r2⟩ := r
  generalize hr1 : opR s.toList a0 b1 = q at *
  obtain ⟨q1, q2⟩ := q
  have HO : Hid (∀ w', Calls Try.prog 25 #[.string s, .int .u64 a0, .int .u64 b0] w' fun e w'' => e = .returned (.tuple #[.int .u64 r1, .int .i64 r2]) ∧ Below w'.heap.size w' w'') := Lib.hid hw0
  have HO1 : Hid (∀ w', Calls Try.prog 25 #[.string s, .int .u64 a0, .int .u64 b1] w' fun e w'' => e = .returned (.tuple #[.int .u64 q1, .int .i64 q2]) ∧ Below w'.heap.size w' w'') := Lib.hid hw1
  clear hw0 hw1 hr0 hr1 ha hb
  have hv1 : ¬ (a0 < a0) := by omega
  have hu1 : ¬ (b1 < b0) := by omega
  have HG := Lib.hid HG0
  have HS : Hid (∀ w', Calls Try.prog 28 #[.int .u64 a0, .int .u64 mn] w' fun e w'' => e = .returned (.tuple #[.int .u64 s1, .int .i64 s2]) ∧ w' = w'') := Lib.hid HS0
  have HT : Hid (∀ w', Calls Try.prog 28 #[.int .u64 a0, .int .u64 b0] w' fun e w'' => e = .returned (.tuple #[.int .u64 t1, .int .i64 t2]) ∧ w' = w'') := Lib.hid HS1
  clear HG0 HS0 HS1
  have T0 := Lib.hid (Tri2.new w a0 a0 b0 b1)
  have B0 := Lib.hid (three_below w (.cells #[.int .u64 a0, .int .u64 a0] 26) (.cells #[.int .u64 b0, .int .u64 b1] 26) (.cells #[.int .u64 0, .int .u64 0] 26))
  obtain ⟨c0, c1, c2, c3, c4, c5, f0, f1⟩ := T0.out.cells
  go_enter Try.func10, Try.ntmps10
  go_upto_region 1 with fail
  generalize ((w.alloc (.cells #[.int .u64 a0, .int .u64 a0] 26)).alloc (.cells #[.int .u64 b0, .int .u64 b1] 26)).alloc (.cells #[.int .u64 0, .int .u64 0] 26) = W at *
  have hlt := T0.out.lt
  go_wp2_with (first | (go_at_call_of 25 b0; refine (HO.out _).mono ?_; rintro e w' ⟨rfl, hb1⟩; replace T0 := Lib.hid (T0.out.below hb1 T0.out.lt); replace B0 := Lib.hid (chain2 B0.out hb1); clear hb1; obtain ⟨c0, c1, c2, c3, c4, c5, f0, f1⟩ := T0.out.cells) | (go_at_call_of 25 b1; refine (HO1.out _).mono ?_; rintro e w' ⟨rfl, hb1⟩; replace T0 := Lib.hid (T0.out.below hb1 T0.out.lt); replace B0 := Lib.hid (chain2 B0.out hb1); clear hb1; obtain ⟨c0, c1, c2, c3, c4, c5, f0, f1⟩ := T0.out.cells) | (go_at_call 27; refine (HG.out _).mono ?_; rintro e w' ⟨rfl, rfl⟩) | (go_at_call_of 28 mn; refine (HS.out _).mono ?_; rintro e w' ⟨rfl, rfl⟩) | (go_at_call 28; refine (HT.out _).mono ?_; rintro e w' ⟨rfl, rfl⟩))
  all_goals
    have q := T0.out.set (.int .u64 s1) (.int .u64 t1)
    exact bodyPost_ret (v := .tuple #[.agg #[.int .u64 s1, .int .u64 t1], .bool true]) (by simp [results, Try.results10, go_sem, q.1, q.2]) rfl ⟨rfl, (B0.out.setCell (p := ⟨w.heap.size + 1 + 1, 0, none⟩) (by show w.heap.size ≤ w.heap.size + 1 + 1; omega) _).setCell (p := ⟨w.heap.size + 1 + 1, 1, none⟩) (by show w.heap.size ≤ w.heap.size + 1 + 1; omega) _⟩
end Go.Proofs.Ytoengahfkfmfeaa
