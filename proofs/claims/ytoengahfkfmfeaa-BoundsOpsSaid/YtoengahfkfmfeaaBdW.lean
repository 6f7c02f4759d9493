/- Contracts of layer 11: the document's ranges. -/
import Derived.Test.YtoengahfkfmfeaaBdC
import Derived.Test.YtoengahfkfmfeaaRefD
import Derived.Test.YtoengahfkfmfeaaRefM
import Derived.StillTailTactics
import Derived.Deep.RegionHeld3
import Derived.Deep.RegionLaw
set_option linter.unusedVariables false
set_option linter.unusedSimpArgs false
namespace Go.Proofs.Ytoengahfkfmfeaa
open Go.ChangeShapes Go.WideShapes Go.ChangeAt Go.RowKit

theorem greater_any (a b : Int) (w : World) :
    Calls Try.prog 26 #[.int .u64 a, .int .u64 b] w fun e w' => e = .returned (.int .u64 (max a b)) ∧ w = w' := by
  by_cases h : b < a
  · go_enter Try.func26, Try.ntmps26
    go_wp2
    go_ret
    exact ⟨show Ending.returned (.int .u64 a) = _ from by rw [show max a b = a from by omega], rfl⟩
  · go_enter Try.func26, Try.ntmps26
    go_wp2
    go_ret
    exact ⟨show Ending.returned (.int .u64 b) = _ from by rw [show max a b = b from by omega], rfl⟩
theorem lesser_any (a b : Int) (w : World) :
    Calls Try.prog 27 #[.int .u64 a, .int .u64 b] w fun e w' => e = .returned (.int .u64 (min a b)) ∧ w = w' := by
  by_cases h : a < b
  · go_enter Try.func27, Try.ntmps27
    go_wp2
    go_ret
    exact ⟨show Ending.returned (.int .u64 a) = _ from by rw [show min a b = a from by omega], rfl⟩
  · go_enter Try.func27, Try.ntmps27
    go_wp2
    go_ret
    exact ⟨show Ending.returned (.int .u64 b) = _ from by rw [show min a b = b from by omega], rfl⟩
theorem refJoin_any (a b c d : Int) (w : World) :
    Calls Try.prog 13 #[.agg #[.int .u64 a, .int .u64 b], .agg #[.int .u64 c, .int .u64 d]] w fun e w' => e = .returned (.agg #[.int .u64 (min a c), .int .u64 (max b d)]) ∧ Below w.heap.size w w' := by
  have HL := Lib.hid fun w' => lesser_any a c w'
  have HG := Lib.hid fun w' => greater_any b d w'
  generalize min a c = x at *
  generalize max b d = y at *
  go_enter Try.func13, Try.ntmps13
  go_wp2_with (first | (go_at_call 27; refine (HL.out _).mono ?_; rintro e w' ⟨rfl, rfl⟩) | (go_at_call 26; refine (HG.out _).mono ?_; rintro e w' ⟨rfl, rfl⟩))
  exact bodyPost_ret (v := .agg #[.int .u64 x, .int .u64 y]) (by simp [results, Try.results13, go_sem]) rfl ⟨rfl, three_below _ _ _ _⟩
structure Tri2 (W : World) (n : Nat) (a0 a1 b0 b1 x y : Int) : Prop where
  d0 : Duo W n 26 (.int .u64 a0) (.int .u64 a1)
  d1 : Duo W (n + 1) 26 (.int .u64 b0) (.int .u64 b1)
  d2 : Duo W (n + 1 + 1) 26 (.int .u64 x) (.int .u64 y)
theorem Tri2.below {W W' : World} {n : Nat} {a0 a1 b0 b1 x y : Int} (h : Tri2 W n a0 a1 b0 b1 x y) {B : Nat} (hb : Below B W W') (hB : n + 1 + 1 < B) : Tri2 W' n a0 a1 b0 b1 x y :=
  ⟨Duo.keep h.d0 hb (by omega), Duo.keep h.d1 hb (by omega), Duo.keep h.d2 hb hB⟩
theorem Tri2.cells {W : World} {n : Nat} {a0 a1 b0 b1 x y : Int} (h : Tri2 W n a0 a1 b0 b1 x y) : W.cell? ⟨n, 0, none⟩ = some (.int .u64 a0) ∧ W.cell? ⟨n, 1, none⟩ = some (.int .u64 a1) ∧ W.cell? ⟨n + 1, 0, none⟩ = some (.int .u64 b0) ∧ W.cell? ⟨n + 1, 1, none⟩ = some (.int .u64 b1) ∧ W.cell? ⟨n + 1 + 1, 0, none⟩ = some (.int .u64 x) ∧ W.cell? ⟨n + 1 + 1, 1, none⟩ = some (.int .u64 y) ∧ W.frozen? ⟨n + 1 + 1, 0, none⟩ = false ∧ W.frozen? ⟨n + 1 + 1, 1, none⟩ = false :=
  ⟨h.d0.c0, h.d0.c1, h.d1.c0, h.d1.c1, h.d2.c0, h.d2.c1, Duo.fz h.d2 0, Duo.fz h.d2 1⟩
theorem Tri2.set {W : World} {n : Nat} {a0 a1 b0 b1 x y : Int} (h : Tri2 W n a0 a1 b0 b1 x y) (u v : Value) : ((W.setCell ⟨n + 1 + 1, 0, none⟩ u).setCell ⟨n + 1 + 1, 1, none⟩ v).cell? ⟨n + 1 + 1, 0, none⟩ = some u ∧ ((W.setCell ⟨n + 1 + 1, 0, none⟩ u).setCell ⟨n + 1 + 1, 1, none⟩ v).cell? ⟨n + 1 + 1, 1, none⟩ = some v :=
  ⟨(Duo.sets h.d2 u v).c0, (Duo.sets h.d2 u v).c1⟩
theorem Tri2.lt {W : World} {n : Nat} {a0 a1 b0 b1 x y : Int} (h : Tri2 W n a0 a1 b0 b1 x y) : n + 1 + 1 < W.heap.size := h.d2.lt
theorem Tri2.new (w : World) (a0 a1 b0 b1 : Int) : Tri2 (((w.alloc (.cells #[.int .u64 a0, .int .u64 a1] 26)).alloc (.cells #[.int .u64 b0, .int .u64 b1] 26)).alloc (.cells #[.int .u64 0, .int .u64 0] 26)) w.heap.size a0 a1 b0 b1 0 0 := by
  refine ⟨?_, ?_, ?_⟩
  · exact (Below.heap_alloc _ _ _ (by simp; omega)).trans ((Below.heap_alloc _ _ _ (by simp)).trans (World.alloc_heap_new w _))
  · have := World.alloc_heap_new (w.alloc (.cells #[.int .u64 a0, .int .u64 a1] 26)) (.cells #[.int .u64 b0, .int .u64 b1] 26)
    rw [World.size_alloc] at this
    exact (Below.heap_alloc _ _ _ (by simp)).trans this
  · have := World.alloc_heap_new ((w.alloc (.cells #[.int .u64 a0, .int .u64 a1] 26)).alloc (.cells #[.int .u64 b0, .int .u64 b1] 26)) (.cells #[.int .u64 0, .int .u64 0] 26)
    rw [World.size_alloc, World.size_alloc] at this
    exact this
theorem opB_of {l : List UInt8} {a b r : Int × Int} {e : Int} (h1 : a.1 ≤ a.2) (h2 : b.1 ≤ b.2) (h : resB l a b = (r, e)) : opB l a b = if e = 0 then some r else none := by
  unfold opB; rw [if_pos ⟨h1, h2⟩, h]
theorem lenV_half {n : Int} (h : 0 < n) : lenV n = lenV (n / 2) + 1 := by
  obtain ⟨m, rfl⟩ := Int.eq_ofNat_of_zero_le (Int.le_of_lt h)
  have h0 : m ≠ 0 := by omega
  rw [show ((m : Int)) / 2 = ((m / 2 : Nat) : Int) from by omega]
  unfold lenV
  rw [if_neg (by omega : ¬ (m : Int) = 0), show ((m : Int)).toNat = m from rfl, show (((m / 2 : Nat) : Int)).toNat = m / 2 from rfl, Nat.log2_def m]
  by_cases h1 : 2 ≤ m
  · rw [if_pos h1, if_neg (by omega)]
  · obtain rfl : m = 1 := by omega
    rfl
set_option maxRecDepth 100000 in
set_option maxHeartbeats 2000000 in
theorem refOp_bad1 (s : ByteArray) (a b : Int × Int) (ha : WR a) (hb : WR b) (hv : ¬ a.1 ≤ a.2) (w : World) :
    Calls Try.prog 10 #[.string s, .agg #[.int .u64 a.1, .int .u64 a.2], .agg #[.int .u64 b.1, .int .u64 b.2]] w fun e w' => e = optE (opB s.toList a b) ∧ Below w.heap.size w w' := by
  have HE : opB s.toList a b = none := by
    unfold opB; rw [if_neg (fun h => hv h.1)]
  rw [HE]
  clear HE
  have hw0 := fun w' => refOp_any s a.1 b.1 ha.1 hb.1 w'
  have hw1 := fun w' => refOp_any s a.2 b.2 ha.2 hb.2 w'
  obtain ⟨a0, a1⟩ := a
  obtain ⟨b0, b1⟩ := b
  simp only at *
  have HA0 := Lib.hid ha
  generalize hr0 : opR s.toList a0 b0 = r at *
  obtain ⟨r1, r2⟩ := r
  generalize hr1 : opR s.toList a1 b1 = q at *
  obtain ⟨q1, q2⟩ := q
  have HO : Hid (∀ w', Calls Try.prog 25 #[.string s, .int .u64 a0, .int .u64 b0] w' fun e w'' => e = .returned (.tuple #[.int .u64 r1, .int .i64 r2]) ∧ Below w'.heap.size w' w'') := Lib.hid hw0
  have HO1 : Hid (∀ w', Calls Try.prog 25 #[.string s, .int .u64 a1, .int .u64 b1] w' fun e w'' => e = .returned (.tuple #[.int .u64 q1, .int .i64 q2]) ∧ Below w'.heap.size w' w'') := Lib.hid hw1
  clear hw0 hw1 hr0 hr1 ha hb
  have hv1 : a1 < a0 := by omega
  clear hv
  have T0 := Lib.hid (Tri2.new w a0 a1 b0 b1)
  have B0 := Lib.hid (three_below w (.cells #[.int .u64 a0, .int .u64 a1] 26) (.cells #[.int .u64 b0, .int .u64 b1] 26) (.cells #[.int .u64 0, .int .u64 0] 26))
  obtain ⟨c0, c1, c2, c3, c4, c5, f0, f1⟩ := T0.out.cells
  go_enter Try.func10, Try.ntmps10
  go_upto_region 1 with fail
  generalize ((w.alloc (.cells #[.int .u64 a0, .int .u64 a1] 26)).alloc (.cells #[.int .u64 b0, .int .u64 b1] 26)).alloc (.cells #[.int .u64 0, .int .u64 0] 26) = W at *
  have hlt := T0.out.lt
  go_wp2_with (first | (go_at_call_of 25 b0; refine (HO.out _).mono ?_; rintro e w' ⟨rfl, hb1⟩; replace T0 := Lib.hid (T0.out.below hb1 T0.out.lt); replace B0 := Lib.hid (chain2 B0.out hb1); clear hb1; obtain ⟨c0, c1, c2, c3, c4, c5, f0, f1⟩ := T0.out.cells) | (go_at_call_of 25 b1; refine (HO1.out _).mono ?_; rintro e w' ⟨rfl, hb1⟩; replace T0 := Lib.hid (T0.out.below hb1 T0.out.lt); replace B0 := Lib.hid (chain2 B0.out hb1); clear hb1; obtain ⟨c0, c1, c2, c3, c4, c5, f0, f1⟩ := T0.out.cells))
  all_goals
    have q := T0.out.set (.int .u64 0) (.int .u64 0)
    exact bodyPost_ret (v := .tuple #[.agg #[.int .u64 0, .int .u64 0], .bool false]) (by simp [results, Try.results10, go_sem, q.1, q.2]) rfl ⟨rfl, (B0.out.setCell (p := ⟨w.heap.size + 1 + 1, 0, none⟩) (by show w.heap.size ≤ w.heap.size + 1 + 1; omega) _).setCell (p := ⟨w.heap.size + 1 + 1, 1, none⟩) (by show w.heap.size ≤ w.heap.size + 1 + 1; omega) _⟩
set_option maxRecDepth 100000 in
set_option maxHeartbeats 2000000 in
theorem refOp_bad2 (s : ByteArray) (a b : Int × Int) (ha : WR a) (hb : WR b) (hv : a.1 ≤ a.2) (hu : ¬ b.1 ≤ b.2) (w : World) :
    Calls Try.prog 10 #[.string s, .agg #[.int .u64 a.1, .int .u64 a.2], .agg #[.int .u64 b.1, .int .u64 b.2]] w fun e w' => e = optE (opB s.toList a b) ∧ Below w.heap.size w w' := by
  have HE : opB s.toList a b = none := by
    unfold opB; rw [if_neg (fun h => hu h.2)]
  rw [HE]
  clear HE
  have hw0 := fun w' => refOp_any s a.1 b.1 ha.1 hb.1 w'
  have hw1 := fun w' => refOp_any s a.2 b.2 ha.2 hb.2 w'
  obtain ⟨a0, a1⟩ := a
  obtain ⟨b0, b1⟩ := b
  simp only at *
  have HA0 := Lib.hid ha
  generalize hr0 : opR s.toList a0 b0 = r at *
  obtain ⟨r1, r2⟩ := r
  generalize hr1 : opR s.toList a1 b1 = q at *
  obtain ⟨q1, q2⟩ := q
  have HO : Hid (∀ w', Calls Try.prog 25 #[.string s, .int .u64 a0, .int .u64 b0] w' fun e w'' => e = .returned (.tuple #[.int .u64 r1, .int .i64 r2]) ∧ Below w'.heap.size w' w'') := Lib.hid hw0
  have HO1 : Hid (∀ w', Calls Try.prog 25 #[.string s, .int .u64 a1, .int .u64 b1] w' fun e w'' => e = .returned (.tuple #[.int .u64 q1, .int .i64 q2]) ∧ Below w'.heap.size w' w'') := Lib.hid hw1
  clear hw0 hw1 hr0 hr1 ha hb
  have hv1 : ¬ (a1 < a0) := by omega
  have hu1 : b1 < b0 := by omega
  clear hv hu
  have T0 := Lib.hid (Tri2.new w a0 a1 b0 b1)
  have B0 := Lib.hid (three_below w (.cells #[.int .u64 a0, .int .u64 a1] 26) (.cells #[.int .u64 b0, .int .u64 b1] 26) (.cells #[.int .u64 0, .int .u64 0] 26))
  obtain ⟨c0, c1, c2, c3, c4, c5, f0, f1⟩ := T0.out.cells
  go_enter Try.func10, Try.ntmps10
  go_upto_region 1 with fail
  generalize ((w.alloc (.cells #[.int .u64 a0, .int .u64 a1] 26)).alloc (.cells #[.int .u64 b0, .int .u64 b1] 26)).alloc (.cells #[.int .u64 0, .int .u64 0] 26) = W at *
  have hlt := T0.out.lt
  go_wp2_with (first | (go_at_call_of 25 b0; refine (HO.out _).mono ?_; rintro e w' ⟨rfl, hb1⟩; replace T0 := Lib.hid (T0.out.below hb1 T0.out.lt); replace B0 := Lib.hid (chain2 B0.out hb1); clear hb1; obtain ⟨c0, c1, c2, c3, c4, c5, f0, f1⟩ := T0.out.cells) | (go_at_call_of 25 b1; refine (HO1.out _).mono ?_; rintro e w' ⟨rfl, hb1⟩; replace T0 := Lib.hid (T0.out.below hb1 T0.out.lt); replace B0 := Lib.hid (chain2 B0.out hb1); clear hb1; obtain ⟨c0, c1, c2, c3, c4, c5, f0, f1⟩ := T0.out.cells))
  all_goals
    have q := T0.out.set (.int .u64 0) (.int .u64 0)
    exact bodyPost_ret (v := .tuple #[.agg #[.int .u64 0, .int .u64 0], .bool false]) (by simp [results, Try.results10, go_sem, q.1, q.2]) rfl ⟨rfl, (B0.out.setCell (p := ⟨w.heap.size + 1 + 1, 0, none⟩) (by show w.heap.size ≤ w.heap.size + 1 + 1; omega) _).setCell (p := ⟨w.heap.size + 1 + 1, 1, none⟩) (by show w.heap.size ≤ w.heap.size + 1 + 1; omega) _⟩
set_option maxRecDepth 100000 in
set_option maxHeartbeats 2000000 in
theorem refOp_pt_ok (s : ByteArray) (a b : Int × Int) (ha : WR a) (hb : WR b) (hp : a.1 = a.2 ∧ b.1 = b.2) (he : (opR s.toList a.1 b.1).2 = 0) (w : World) :
    Calls Try.prog 10 #[.string s, .agg #[.int .u64 a.1, .int .u64 a.2], .agg #[.int .u64 b.1, .int .u64 b.2]] w fun e w' => e = optE (opB s.toList a b) ∧ Below w.heap.size w w' := by
  have HE : opB s.toList a b = some ((opR s.toList a.1 b.1).1, (opR s.toList a.1 b.1).1) := by
    rw [opB_of (r := ((opR s.toList a.1 b.1).1, (opR s.toList a.1 b.1).1)) (e := (opR s.toList a.1 b.1).2) (by omega) (by omega) (by unfold resB; rw [if_pos hp])]
    rw [if_pos he]
  rw [HE]
  clear HE
  have hw0 := fun w' => refOp_any s a.1 b.1 ha.1 hb.1 w'
  obtain ⟨a0, a1⟩ := a
  obtain ⟨b0, b1⟩ := b
  simp only at *
  obtain ⟨rfl, rfl⟩ := hp
  have HA0 := Lib.hid ha
  generalize hr0 : opR s.toList a0 b0 = r at *
  obtain ⟨r1, r2⟩ := r
  have HO : Hid (∀ w', Calls Try.prog 25 #[.string s, .int .u64 a0, .int .u64 b0] w' fun e w'' => e = .returned (.tuple #[.int .u64 r1, .int .i64 r2]) ∧ Below w'.heap.size w' w'') := Lib.hid hw0
  clear hw0 hr0 ha hb
  subst he
  have T0 := Lib.hid (Tri2.new w a0 a0 b0 b0)
  have B0 := Lib.hid (three_below w (.cells #[.int .u64 a0, .int .u64 a0] 26) (.cells #[.int .u64 b0, .int .u64 b0] 26) (.cells #[.int .u64 0, .int .u64 0] 26))
  obtain ⟨c0, c1, c2, c3, c4, c5, f0, f1⟩ := T0.out.cells
  go_enter Try.func10, Try.ntmps10
  go_upto_region 1 with fail
  generalize ((w.alloc (.cells #[.int .u64 a0, .int .u64 a0] 26)).alloc (.cells #[.int .u64 b0, .int .u64 b0] 26)).alloc (.cells #[.int .u64 0, .int .u64 0] 26) = W at *
  have hlt := T0.out.lt
  go_wp2_with (first | (go_at_call_of 25 b0; refine (HO.out _).mono ?_; rintro e w' ⟨rfl, hb1⟩; replace T0 := Lib.hid (T0.out.below hb1 T0.out.lt); replace B0 := Lib.hid (chain2 B0.out hb1); clear hb1; obtain ⟨c0, c1, c2, c3, c4, c5, f0, f1⟩ := T0.out.cells))
  all_goals
    have q := T0.out.set (.int .u64 r1) (.int .u64 r1)
    exact bodyPost_ret (v := .tuple #[.agg #[.int .u64 r1, .int .u64 r1], .bool true]) (by simp [results, Try.results10, go_sem, q.1, q.2]) rfl ⟨rfl, (B0.out.setCell (p := ⟨w.heap.size + 1 + 1, 0, none⟩) (by show w.heap.size ≤ w.heap.size + 1 + 1; omega) _).setCell (p := ⟨w.heap.size + 1 + 1, 1, none⟩) (by show w.heap.size ≤ w.heap.size + 1 + 1; omega) _⟩
set_option maxRecDepth 100000 in
set_option maxHeartbeats 2000000 in
theorem refOp_pt_no (s : ByteArray) (a b : Int × Int) (ha : WR a) (hb : WR b) (hp : a.1 = a.2 ∧ b.1 = b.2) (he : (opR s.toList a.1 b.1).2 ≠ 0) (w : World) :
    Calls Try.prog 10 #[.string s, .agg #[.int .u64 a.1, .int .u64 a.2], .agg #[.int .u64 b.1, .int .u64 b.2]] w fun e w' => e = optE (opB s.toList a b) ∧ Below w.heap.size w w' := by
  have HE : opB s.toList a b = none := by
    rw [opB_of (r := ((opR s.toList a.1 b.1).1, (opR s.toList a.1 b.1).1)) (e := (opR s.toList a.1 b.1).2) (by omega) (by omega) (by unfold resB; rw [if_pos hp])]
    rw [if_neg he]
  rw [HE]
  clear HE
  have hw0 := fun w' => refOp_any s a.1 b.1 ha.1 hb.1 w'
  obtain ⟨a0, a1⟩ := a
  obtain ⟨b0, b1⟩ := b
  simp only at *
  obtain ⟨rfl, rfl⟩ := hp
  have HA0 := Lib.hid ha
  generalize hr0 : opR s.toList a0 b0 = r at *
  obtain ⟨r1, r2⟩ := r
  have HO : Hid (∀ w', Calls Try.prog 25 #[.string s, .int .u64 a0, .int .u64 b0] w' fun e w'' => e = .returned (.tuple #[.int .u64 r1, .int .i64 r2]) ∧ Below w'.heap.size w' w'') := Lib.hid hw0
  clear hw0 hr0 ha hb
  have he1 : (r2 != 0) = true := by simpa using he
  clear he
  have T0 := Lib.hid (Tri2.new w a0 a0 b0 b0)
  have B0 := Lib.hid (three_below w (.cells #[.int .u64 a0, .int .u64 a0] 26) (.cells #[.int .u64 b0, .int .u64 b0] 26) (.cells #[.int .u64 0, .int .u64 0] 26))
  obtain ⟨c0, c1, c2, c3, c4, c5, f0, f1⟩ := T0.out.cells
  go_enter Try.func10, Try.ntmps10
  go_upto_region 1 with fail
  generalize ((w.alloc (.cells #[.int .u64 a0, .int .u64 a0] 26)).alloc (.cells #[.int .u64 b0, .int .u64 b0] 26)).alloc (.cells #[.int .u64 0, .int .u64 0] 26) = W at *
  have hlt := T0.out.lt
  go_wp2_with (first | (go_at_call_of 25 b0; refine (HO.out _).mono ?_; rintro e w' ⟨rfl, hb1⟩; replace T0 := Lib.hid (T0.out.below hb1 T0.out.lt); replace B0 := Lib.hid (chain2 B0.out hb1); clear hb1; obtain ⟨c0, c1, c2, c3, c4, c5, f0, f1⟩ := T0.out.cells))
  all_goals
    have q := T0.out.set (.int .u64 0) (.int .u64 0)
    exact bodyPost_ret (v := .tuple #[.agg #[.int .u64 0, .int .u64 0], .bool false]) (by simp [results, Try.results10, go_sem, q.1, q.2]) rfl ⟨rfl, (B0.out.setCell (p := ⟨w.heap.size + 1 + 1, 0, none⟩) (by show w.heap.size ≤ w.heap.size + 1 + 1; omega) _).setCell (p := ⟨w.heap.size + 1 + 1, 1, none⟩) (by show w.heap.size ≤ w.heap.size + 1 + 1; omega) _⟩
end Go.Proofs.Ytoengahfkfmfeaa
