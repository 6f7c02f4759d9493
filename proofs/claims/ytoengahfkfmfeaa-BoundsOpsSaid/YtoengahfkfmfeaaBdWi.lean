/- Contracts of layer 11: the document's Op, case by case. -/
import Derived.Test.YtoengahfkfmfeaaBdW
set_option linter.unusedVariables false
set_option linter.unusedSimpArgs false
namespace Go.Proofs.Ytoengahfkfmfeaa
open Go.ChangeShapes Go.WideShapes Go.ChangeAt Go.RowKit

set_option maxRecDepth 100000 in
set_option maxHeartbeats 2000000 in
theorem refOp_orA (s : ByteArray) (a b : Int × Int) (ha : WR a) (hb : WR b) (hv : a.1 ≤ a.2) (hu : b.1 ≤ b.2) (n0 : (s.toList == [43]) = false) (n1 : (s.toList == [42]) = false) (n2 : (s.toList == [60, 60]) = false) (n3 : (s.toList == [45]) = false) (n4 : (s.toList == [47]) = false) (n5 : (s.toList == [37]) = false) (n6 : (s.toList == [62, 62]) = false) (n7 : (s.toList == [38]) = false) (n8 : (s.toList == [124]) = true) (hp : ¬ a.1 = a.2) (w : World) :
    Calls Try.prog 10 #[.string s, .agg #[.int .u64 a.1, .int .u64 a.2], .agg #[.int .u64 b.1, .int .u64 b.2]] w fun e w' => e = optE (opB s.toList a b) ∧ Below w.heap.size w w' := by
  have HE : opB s.toList a b = some (max a.1 b.1, maskV (lenV (max a.2 b.2))) := by
    rw [opB_of (r := (max a.1 b.1, maskV (lenV (max a.2 b.2)))) (e := 0) hv hu (by unfold resB; rw [if_neg (by omega)]; rw [if_neg (by simp only [n0, n1, n2]; decide), if_neg (by rw [n3]; decide), if_neg (by rw [n4]; decide), if_neg (by rw [n5]; decide), if_neg (by rw [n6]; decide), if_neg (by rw [n7]; decide), if_pos n8])]
    rfl
  rw [HE]
  clear HE
  have hw0 := fun w' => refOp_any s a.1 b.1 ha.1 hb.1 w'
  have hw1 := fun w' => refOp_any s a.2 b.2 ha.2 hb.2 w'
  have HG0 := fun w' => greater_any a.1 b.1 w'
  have HG1 := fun w' => greater_any a.2 b.2 w'
  have hn0 : 0 ≤ max a.2 b.2 ∧ max a.2 b.2 ≤ 18446744073709551615 := ⟨by have := ha.2.1; omega, by have := ha.2.2; have := hb.2.2; omega⟩
  have hl2 := lenV_le (n := max a.2 b.2) hn0
  have HM0 := fun w' => refMask_any (lenV (max a.2 b.2)) (by simp [Lit.wf, IntKind.min, IntKind.max, IntKind.signed, IntKind.bits]; omega) w'
  generalize max a.1 b.1 = mx at *
  generalize max a.2 b.2 = my at *
  generalize hlen : lenV my = len at *
  generalize maskV len = mk at *
  obtain ⟨a0, a1⟩ := a
  obtain ⟨b0, b1⟩ := b
  simp only at *
  have HA0 := Lib.hid ha
  generalize hr0 : opR s.toList a0 b0 = r at *
  obtain ⟨r1, r2⟩ := r
  generalize hr1 : opR s.toList a1 b1 = q at *
  obtain ⟨q1, q2⟩ := q
  have HO : Hid (∀ w', Calls Try.prog 25 #[.string s, .int .u64 a0, .int .u64 b0] w' fun e w'' => e = .returned (.tuple #[.int .u64 r1, .int .i64 r2]) ∧ Below w'.heap.size w' w'') := Lib.hid hw0
  have HO1 : Hid (∀ w', Calls Try.prog 25 #[.string s, .int .u64 a1, .int .u64 b1] w' fun e w'' => e = .returned (.tuple #[.int .u64 q1, .int .i64 q2]) ∧ Below w'.heap.size w' w'') := Lib.hid hw1
  clear hw0 hw1 hr0 hr1 ha hb
  have hv1 : ¬ (a1 < a0) := by omega
  have hu1 : ¬ (b1 < b0) := by omega
  have HG := Lib.hid HG0
  have HY := Lib.hid HG1
  have HM := Lib.hid HM0
  have HLEN := Lib.hid hlen
  clear HG0 HG1 HM0 hlen
  have T0 := Lib.hid (Tri2.new w a0 a1 b0 b1)
  have B0 := Lib.hid (three_below w (.cells #[.int .u64 a0, .int .u64 a1] 26) (.cells #[.int .u64 b0, .int .u64 b1] 26) (.cells #[.int .u64 0, .int .u64 0] 26))
  obtain ⟨c0, c1, c2, c3, c4, c5, f0, f1⟩ := T0.out.cells
  go_enter Try.func10, Try.ntmps10
  go_upto_region 1 with fail
  generalize ((w.alloc (.cells #[.int .u64 a0, .int .u64 a1] 26)).alloc (.cells #[.int .u64 b0, .int .u64 b1] 26)).alloc (.cells #[.int .u64 0, .int .u64 0] 26) = W at *
  have hlt := T0.out.lt
  go_wp2_with (first | (go_at_call_of 25 b0; refine (HO.out _).mono ?_; rintro e w' ⟨rfl, hb1⟩; replace T0 := Lib.hid (T0.out.below hb1 T0.out.lt); replace B0 := Lib.hid (chain2 B0.out hb1); clear hb1; obtain ⟨c0, c1, c2, c3, c4, c5, f0, f1⟩ := T0.out.cells) | (go_at_call_of 25 b1; refine (HO1.out _).mono ?_; rintro e w' ⟨rfl, hb1⟩; replace T0 := Lib.hid (T0.out.below hb1 T0.out.lt); replace B0 := Lib.hid (chain2 B0.out hb1); clear hb1; obtain ⟨c0, c1, c2, c3, c4, c5, f0, f1⟩ := T0.out.cells) | (go_at_call_of 26 b0; refine (HG.out _).mono ?_; rintro e w' ⟨rfl, rfl⟩) | (go_at_call 26; refine (HY.out _).mono ?_; rintro e w' ⟨rfl, rfl⟩))
  all_goals
    go_loopw [22, 23] (fun s22 s23 wr => ∃ (n : Int) (d : Nat), s22 = .int .u64 n ∧ s23 = .int .i64 d ∧ 0 ≤ n ∧ n ≤ 18446744073709551615 ∧ d + lenV n = len ∧ wr = w') (fun s22 _ _ => (intOf s22).toNat)
    case atStart => exact ⟨my, 0, rfl, rfl, hn0.1, hn0.2, by rw [HLEN.out, Nat.zero_add], (by trivial)⟩
    case round =>
      obtain ⟨n, d, rfl, rfl, g1, g2, g3, rfl⟩ := hrel
      by_cases hz : 0 < n
      · have hh := Lib.hid (lenV_half hz)
        have hd : (d : Int) ≤ 64 := by omega
        have G3 := Lib.hid g3
        clear g3
        go_wp2_with fail
        refine ⟨⟨n / 2, d + 1, by go_num, by go_num, by omega, by omega, ?_, (by trivial)⟩, by simp [intOf]; omega⟩
        have := hh.out
        have := G3.out
        omega
      · obtain rfl : n = 0 := by omega
        have e0 : lenV 0 = 0 := rfl
        obtain rfl : d = len := by omega
        have hz' : ¬ ((0 : Int) < 0) := by omega
        clear g3 e0
        go_wp2_with (go_at_call 17; refine (HM.out _).mono ?_; rintro e w' ⟨rfl, rfl⟩)
        have q := T0.out.set (.int .u64 mx) (.int .u64 mk)
        exact bodyPost_ret (v := .tuple #[.agg #[.int .u64 mx, .int .u64 mk], .bool true]) (by simp [results, Try.results10, go_sem, q.1, q.2]) rfl ⟨rfl, (B0.out.setCell (p := ⟨w.heap.size + 1 + 1, 0, none⟩) (by show w.heap.size ≤ w.heap.size + 1 + 1; omega) _).setCell (p := ⟨w.heap.size + 1 + 1, 1, none⟩) (by show w.heap.size ≤ w.heap.size + 1 + 1; omega) _⟩
set_option maxRecDepth 100000 in
set_option maxHeartbeats 2000000 in
theorem refOp_orB (s : ByteArray) (a b : Int × Int) (ha : WR a) (hb : WR b) (hv : a.1 ≤ a.2) (hu : b.1 ≤ b.2) (n0 : (s.toList == [43]) = false) (n1 : (s.toList == [42]) = false) (n2 : (s.toList == [60, 60]) = false) (n3 : (s.toList == [45]) = false) (n4 : (s.toList == [47]) = false) (n5 : (s.toList == [37]) = false) (n6 : (s.toList == [62, 62]) = false) (n7 : (s.toList == [38]) = false) (n8 : (s.toList == [124]) = true) (hp : a.1 = a.2) (hq : ¬ b.1 = b.2) (w : World) :
    Calls Try.prog 10 #[.string s, .agg #[.int .u64 a.1, .int .u64 a.2], .agg #[.int .u64 b.1, .int .u64 b.2]] w fun e w' => e = optE (opB s.toList a b) ∧ Below w.heap.size w w' := by
  have HE : opB s.toList a b = some (max a.1 b.1, maskV (lenV (max a.2 b.2))) := by
    rw [opB_of (r := (max a.1 b.1, maskV (lenV (max a.2 b.2)))) (e := 0) hv hu (by unfold resB; rw [if_neg (by omega)]; rw [if_neg (by simp only [n0, n1, n2]; decide), if_neg (by rw [n3]; decide), if_neg (by rw [n4]; decide), if_neg (by rw [n5]; decide), if_neg (by rw [n6]; decide), if_neg (by rw [n7]; decide), if_pos n8])]
    rfl
  rw [HE]
  clear HE
  have hw0 := fun w' => refOp_any s a.1 b.1 ha.1 hb.1 w'
  have hw1 := fun w' => refOp_any s a.2 b.2 ha.2 hb.2 w'
  have HG0 := fun w' => greater_any a.1 b.1 w'
  have HG1 := fun w' => greater_any a.2 b.2 w'
  have hn0 : 0 ≤ max a.2 b.2 ∧ max a.2 b.2 ≤ 18446744073709551615 := ⟨by have := ha.2.1; omega, by have := ha.2.2; have := hb.2.2; omega⟩
  have hl2 := lenV_le (n := max a.2 b.2) hn0
  have HM0 := fun w' => refMask_any (lenV (max a.2 b.2)) (by simp [Lit.wf, IntKind.min, IntKind.max, IntKind.signed, IntKind.bits]; omega) w'
  generalize max a.1 b.1 = mx at *
  generalize max a.2 b.2 = my at *
  generalize hlen : lenV my = len at *
  generalize maskV len = mk at *
  obtain ⟨a0, a1⟩ := a
  obtain ⟨b0, b1⟩ := b
  simp only at *
  subst hp
  have HA0 := Lib.hid ha
  generalize hr0 : opR s.toList a0 b0 = r at *
  obtain ⟨r1, r2⟩ := r
  generalize hr1 : opR s.toList a0 b1 = q at *
  obtain ⟨q1, q2⟩ := q
  have HO : Hid (∀ w', Calls Try.prog 25 #[.string s, .int .u64 a0, .int .u64 b0] w' fun e w'' => e = .returned (.tuple #[.int .u64 r1, .int .i64 r2]) ∧ Below w'.heap.size w' w'') := Lib.hid hw0
  have HO1 : Hid (∀ w', Calls Try.prog 25 #[.string s, .int .u64 a0, .int .u64 b1] w' fun e w'' => e = .returned (.tuple #[.int .u64 q1, .int .i64 q2]) ∧ Below w'.heap.size w' w'') := Lib.hid hw1
  clear hw0 hw1 hr0 hr1 ha hb
  have hv1 : ¬ (a0 < a0) := by omega
  have hu1 : ¬ (b1 < b0) := by omega
  have HG := Lib.hid HG0
  have HY := Lib.hid HG1
  have HM := Lib.hid HM0
  have HLEN := Lib.hid hlen
  clear HG0 HG1 HM0 hlen
  have T0 := Lib.hid (Tri2.new w a0 a0 b0 b1)
  have B0 := Lib.hid (three_below w (.cells #[.int .u64 a0, .int .u64 a0] 26) (.cells #[.int .u64 b0, .int .u64 b1] 26) (.cells #[.int .u64 0, .int .u64 0] 26))
  obtain ⟨c0, c1, c2, c3, c4, c5, f0, f1⟩ := T0.out.cells
  go_enter Try.func10, Try.ntmps10
  go_upto_region 1 with fail
  generalize ((w.alloc (.cells #[.int .u64 a0, .int .u64 a0] 26)).alloc (.cells #[.int .u64 b0, .int .u64 b1] 26)).alloc (.cells #[.int .u64 0, .int .u64 0] 26) = W at *
  have hlt := T0.out.lt
  go_wp2_with (first | (go_at_call_of 25 b0; refine (HO.out _).mono ?_; rintro e w' ⟨rfl, hb1⟩; replace T0 := Lib.hid (T0.out.below hb1 T0.out.lt); replace B0 := Lib.hid (chain2 B0.out hb1); clear hb1; obtain ⟨c0, c1, c2, c3, c4, c5, f0, f1⟩ := T0.out.cells) | (go_at_call_of 25 b1; refine (HO1.out _).mono ?_; rintro e w' ⟨rfl, hb1⟩; replace T0 := Lib.hid (T0.out.below hb1 T0.out.lt); replace B0 := Lib.hid (chain2 B0.out hb1); clear hb1; obtain ⟨c0, c1, c2, c3, c4, c5, f0, f1⟩ := T0.out.cells) | (go_at_call_of 26 b0; refine (HG.out _).mono ?_; rintro e w' ⟨rfl, rfl⟩) | (go_at_call 26; refine (HY.out _).mono ?_; rintro e w' ⟨rfl, rfl⟩))
  all_goals
    go_loopw [22, 23] (fun s22 s23 wr => ∃ (n : Int) (d : Nat), s22 = .int .u64 n ∧ s23 = .int .i64 d ∧ 0 ≤ n ∧ n ≤ 18446744073709551615 ∧ d + lenV n = len ∧ wr = w') (fun s22 _ _ => (intOf s22).toNat)
    case atStart => exact ⟨my, 0, rfl, rfl, hn0.1, hn0.2, by rw [HLEN.out, Nat.zero_add], (by trivial)⟩
    case round =>
      obtain ⟨n, d, rfl, rfl, g1, g2, g3, rfl⟩ := hrel
      by_cases hz : 0 < n
      · have hh := Lib.hid (lenV_half hz)
        have hd : (d : Int) ≤ 64 := by omega
        have G3 := Lib.hid g3
        clear g3
        go_wp2_with fail
        refine ⟨⟨n / 2, d + 1, by go_num, by go_num, by omega, by omega, ?_, (by trivial)⟩, by simp [intOf]; omega⟩
        have := hh.out
        have := G3.out
        omega
      · obtain rfl : n = 0 := by omega
        have e0 : lenV 0 = 0 := rfl
        obtain rfl : d = len := by omega
        have hz' : ¬ ((0 : Int) < 0) := by omega
        clear g3 e0
        go_wp2_with (go_at_call 17; refine (HM.out _).mono ?_; rintro e w' ⟨rfl, rfl⟩)
        have q := T0.out.set (.int .u64 mx) (.int .u64 mk)
        exact bodyPost_ret (v := .tuple #[.agg #[.int .u64 mx, .int .u64 mk], .bool true]) (by simp [results, Try.results10, go_sem, q.1, q.2]) rfl ⟨rfl, (B0.out.setCell (p := ⟨w.heap.size + 1 + 1, 0, none⟩) (by show w.heap.size ≤ w.heap.size + 1 + 1; omega) _).setCell (p := ⟨w.heap.size + 1 + 1, 1, none⟩) (by show w.heap.size ≤ w.heap.size + 1 + 1; omega) _⟩
end Go.Proofs.Ytoengahfkfmfeaa
