/- Contracts of layer 11: the range of an operator's results. -/
import Derived.Test.YtoengahfkfmfeaaBdA
set_option linter.unusedVariables false
set_option linter.unusedSimpArgs false
namespace Go.Proofs.Ytoengahfkfmfeaa
open Go.ChangeShapes Go.WideShapes Go.ChangeAt Go.RowKit

theorem two_below (w : World) (a b : Obj) : Below w.heap.size w ((w.alloc a).alloc b) := ((Below.refl _ _).alloc (Nat.le_refl _) _).alloc (by simp) _
set_option maxHeartbeats 1000000 in
theorem highest_any (s : ByteArray) (a b : Int × Int) (ha : WR a) (hb : WR b) (w : World) :
    Calls Try.prog 44 #[.string s, .agg #[.int .u64 a.1, .int .u64 a.2], .agg #[.int .u64 b.1, .int .u64 b.2]] w fun e w' => e = .returned (.int .u64 (highB s.toList a b)) ∧ Below w.heap.size w w' := by
  have HO := Lib.hid fun w' => Op_any s a.2 b.2 ha.2 hb.2 w'
  have E : highB s.toList a b = if (opR s.toList a.2 b.2).2 = 0 then (opR s.toList a.2 b.2).1 else 18446744073709551615 := rfl
  generalize opR s.toList a.2 b.2 = r at HO E
  rw [E]
  clear E
  by_cases h : r.2 = 0
  all_goals
    simp only [h, if_true, if_false]
    go_enter Try.func44, Try.ntmps44
    go_wp2_with (go_at_call 22; refine (HO.out _).mono ?_; rintro e w' ⟨rfl, rfl⟩)
    go_ret
    exact ⟨rfl, two_below _ _ _⟩
theorem Duo.sets {W : World} {B : Nat} {t : TypeId} {u v : Value} (h : Duo W B t u v) (u' v' : Value) : Duo ((W.setCell ⟨B, 0, none⟩ u').setCell ⟨B, 1, none⟩ v') B t u' v' := by
  have h1 : Duo (W.setCell ⟨B, 0, none⟩ u') B t u' v := by
    unfold Duo at h ⊢
    obtain ⟨hlt, hk⟩ := Array.getElem?_eq_some_iff.1 h
    show (W.heap.modify B _)[B]? = _
    rw [Array.getElem?_eq_getElem (by rw [Array.size_modify]; exact hlt), Array.getElem_modify_self, hk]
    rfl
  unfold Duo at h1 ⊢
  obtain ⟨hlt, hk⟩ := Array.getElem?_eq_some_iff.1 h1
  show ((W.setCell ⟨B, 0, none⟩ u').heap.modify B _)[B]? = _
  rw [Array.getElem?_eq_getElem (by rw [Array.size_modify]; exact hlt), Array.getElem_modify_self, hk]
  rfl
theorem Duo.fz {W : World} {B : Nat} {t : TypeId} {u v : Value} (h : Duo W B t u v) (j : Nat) : W.frozen? ⟨B, j, none⟩ = false := by simp [World.frozen?, show W.heap[B]? = _ from h]
theorem Duo.keep {W W' : World} {B C : Nat} {t : TypeId} {u v : Value} (h : Duo W B t u v) (hb : Below C W W') (hC : B < C) : Duo W' B t u v := (hb.block B hC).trans h
/-- 'returned this range and this error'. -/
abbrev resE (r : (Int × Int) × Int) : Ending := .returned (.tuple #[.agg #[.int .u64 r.1.1, .int .u64 r.1.2], .int .i64 r.2])
/-- The blocks of a call on two ranges: both, and the result. -/
structure Tri (W : World) (n : Nat) (a0 a1 b0 b1 x y : Int) : Prop where
  d0 : Duo W n 25 (.int .u64 a0) (.int .u64 a1)
  d1 : Duo W (n + 1) 25 (.int .u64 b0) (.int .u64 b1)
  d2 : Duo W (n + 1 + 1) 25 (.int .u64 x) (.int .u64 y)
theorem Tri.new (w : World) (a0 a1 b0 b1 : Int) : Tri (((w.alloc (.cells #[.int .u64 a0, .int .u64 a1] 25)).alloc (.cells #[.int .u64 b0, .int .u64 b1] 25)).alloc (.cells #[.int .u64 0, .int .u64 0] 25)) w.heap.size a0 a1 b0 b1 0 0 := by
  refine ⟨?_, ?_, ?_⟩
  · exact (Below.heap_alloc _ _ _ (by simp; omega)).trans ((Below.heap_alloc _ _ _ (by simp)).trans (World.alloc_heap_new w _))
  · have := World.alloc_heap_new (w.alloc (.cells #[.int .u64 a0, .int .u64 a1] 25)) (.cells #[.int .u64 b0, .int .u64 b1] 25)
    rw [World.size_alloc] at this
    exact (Below.heap_alloc _ _ _ (by simp)).trans this
  · have := World.alloc_heap_new ((w.alloc (.cells #[.int .u64 a0, .int .u64 a1] 25)).alloc (.cells #[.int .u64 b0, .int .u64 b1] 25)) (.cells #[.int .u64 0, .int .u64 0] 25)
    rw [World.size_alloc, World.size_alloc] at this
    exact this
theorem Tri.below {W W' : World} {n : Nat} {a0 a1 b0 b1 x y : Int} (h : Tri W n a0 a1 b0 b1 x y) {B : Nat} (hb : Below B W W') (hB : n + 1 + 1 < B) : Tri W' n a0 a1 b0 b1 x y :=
  ⟨Duo.keep h.d0 hb (by omega), Duo.keep h.d1 hb (by omega), Duo.keep h.d2 hb hB⟩
theorem Tri.cells {W : World} {n : Nat} {a0 a1 b0 b1 x y : Int} (h : Tri W n a0 a1 b0 b1 x y) : W.cell? ⟨n, 0, none⟩ = some (.int .u64 a0) ∧ W.cell? ⟨n, 1, none⟩ = some (.int .u64 a1) ∧ W.cell? ⟨n + 1, 0, none⟩ = some (.int .u64 b0) ∧ W.cell? ⟨n + 1, 1, none⟩ = some (.int .u64 b1) ∧ W.cell? ⟨n + 1 + 1, 0, none⟩ = some (.int .u64 x) ∧ W.cell? ⟨n + 1 + 1, 1, none⟩ = some (.int .u64 y) ∧ W.frozen? ⟨n + 1 + 1, 0, none⟩ = false ∧ W.frozen? ⟨n + 1 + 1, 1, none⟩ = false :=
  ⟨h.d0.c0, h.d0.c1, h.d1.c0, h.d1.c1, h.d2.c0, h.d2.c1, Duo.fz h.d2 0, Duo.fz h.d2 1⟩
theorem Tri.set {W : World} {n : Nat} {a0 a1 b0 b1 x y : Int} (h : Tri W n a0 a1 b0 b1 x y) (u v : Value) : ((W.setCell ⟨n + 1 + 1, 0, none⟩ u).setCell ⟨n + 1 + 1, 1, none⟩ v).cell? ⟨n + 1 + 1, 0, none⟩ = some u ∧ ((W.setCell ⟨n + 1 + 1, 0, none⟩ u).setCell ⟨n + 1 + 1, 1, none⟩ v).cell? ⟨n + 1 + 1, 1, none⟩ = some v :=
  ⟨(Duo.sets h.d2 u v).c0, (Duo.sets h.d2 u v).c1⟩
theorem Tri.lt {W : World} {n : Nat} {a0 a1 b0 b1 x y : Int} (h : Tri W n a0 a1 b0 b1 x y) : n + 1 + 1 < W.heap.size := h.d2.lt
theorem chain2 {w W W' : World} (h : Below w.heap.size w W) (h2 : Below W.heap.size W W') : Below w.heap.size w W' := h.trans (h2.mono h.size)
set_option maxRecDepth 100000 in
set_option maxHeartbeats 2000000 in
theorem results_p (s : ByteArray) (a b : Int × Int) (ha : WR a) (hb : WR b) (hp : a.1 = a.2 ∧ b.1 = b.2) (w : World) :
    Calls Try.prog 24 #[.string s, .agg #[.int .u64 a.1, .int .u64 a.2], .agg #[.int .u64 b.1, .int .u64 b.2]] w fun e w' => e = resE (resB s.toList a b) ∧ Below w.heap.size w w' := by
  have HE : resB s.toList a b = (((opR s.toList a.1 b.1).1, (opR s.toList a.1 b.1).1), (opR s.toList a.1 b.1).2) := by
    unfold resB; rw [if_pos hp]
  rw [HE]
  clear HE
  have hw0 := fun w' => Op_any s a.1 b.1 ha.1 hb.1 w'
  obtain ⟨a0, a1⟩ := a
  obtain ⟨b0, b1⟩ := b
  simp only at *
  obtain ⟨rfl, rfl⟩ := hp
  generalize opR s.toList a0 b0 = r at *
  obtain ⟨r1, r2⟩ := r
  have HO : Hid (∀ w', Calls Try.prog 22 #[.string s, .int .u64 a0, .int .u64 b0] w' fun e w'' => e = .returned (.tuple #[.int .u64 r1, .int .i64 r2]) ∧ w' = w'') := Lib.hid hw0
  clear hw0
  have T0 := Lib.hid (Tri.new w a0 a0 b0 b0)
  have B0 := Lib.hid (three_below w (.cells #[.int .u64 a0, .int .u64 a0] 25) (.cells #[.int .u64 b0, .int .u64 b0] 25) (.cells #[.int .u64 0, .int .u64 0] 25))
  obtain ⟨c0, c1, c2, c3, c4, c5, f0, f1⟩ := T0.out.cells
  go_enter Try.func24, Try.ntmps24
  go_upto_region 1 with fail
  generalize ((w.alloc (.cells #[.int .u64 a0, .int .u64 a0] 25)).alloc (.cells #[.int .u64 b0, .int .u64 b0] 25)).alloc (.cells #[.int .u64 0, .int .u64 0] 25) = W at *
  have hlt := T0.out.lt
  go_wp2_with (first | (go_at_call 22; refine (HO.out _).mono ?_; rintro e w' ⟨rfl, rfl⟩) | (go_at_call 43; refine (point_any _ _ _).mono ?_; rintro e w' ⟨rfl, hb1⟩; replace T0 := Lib.hid (T0.out.below hb1 T0.out.lt); replace B0 := Lib.hid (chain2 B0.out hb1); clear hb1; obtain ⟨c0, c1, c2, c3, c4, c5, f0, f1⟩ := T0.out.cells) | (go_at_call 15; refine (Point_any _ _).mono ?_; rintro e w' ⟨rfl, hb1⟩; replace T0 := Lib.hid (T0.out.below hb1 T0.out.lt); replace B0 := Lib.hid (chain2 B0.out hb1); clear hb1; obtain ⟨c0, c1, c2, c3, c4, c5, f0, f1⟩ := T0.out.cells))
  have q := T0.out.set (.int .u64 r1) (.int .u64 r1)
  exact bodyPost_ret (v := .tuple #[.agg #[.int .u64 r1, .int .u64 r1], .int .i64 r2]) (by simp [results, Try.results24, go_sem, q.1, q.2]) rfl ⟨rfl, (B0.out.setCell (p := ⟨w.heap.size + 1 + 1, 0, none⟩) (by show w.heap.size ≤ w.heap.size + 1 + 1; omega) _).setCell (p := ⟨w.heap.size + 1 + 1, 1, none⟩) (by show w.heap.size ≤ w.heap.size + 1 + 1; omega) _⟩
set_option maxRecDepth 100000 in
set_option maxHeartbeats 2000000 in
theorem results_addA (s : ByteArray) (a b : Int × Int) (ha : WR a) (hb : WR b) (n0 : (s.toList == [43]) = true) (hp : ¬ a.1 = a.2) (w : World) :
    Calls Try.prog 24 #[.string s, .agg #[.int .u64 a.1, .int .u64 a.2], .agg #[.int .u64 b.1, .int .u64 b.2]] w fun e w' => e = resE (resB s.toList a b) ∧ Below w.heap.size w w' := by
  have HE : resB s.toList a b = (((opR s.toList a.1 b.1).1, highB s.toList a b), (opR s.toList a.1 b.1).2) := by
    unfold resB; rw [if_neg (by omega)]; rw [if_pos (by simp only [n0, true_or, or_true])]
  rw [HE]
  clear HE
  have hw0 := fun w' => Op_any s a.1 b.1 ha.1 hb.1 w'
  have hh := fun w' => highest_any s a b ha hb w'
  generalize highB s.toList a b = hi at *
  obtain ⟨a0, a1⟩ := a
  obtain ⟨b0, b1⟩ := b
  simp only at *
  generalize opR s.toList a0 b0 = r at *
  obtain ⟨r1, r2⟩ := r
  have HO : Hid (∀ w', Calls Try.prog 22 #[.string s, .int .u64 a0, .int .u64 b0] w' fun e w'' => e = .returned (.tuple #[.int .u64 r1, .int .i64 r2]) ∧ w' = w'') := Lib.hid hw0
  clear hw0
  have HH := Lib.hid hh
  clear hh
  have T0 := Lib.hid (Tri.new w a0 a1 b0 b1)
  have B0 := Lib.hid (three_below w (.cells #[.int .u64 a0, .int .u64 a1] 25) (.cells #[.int .u64 b0, .int .u64 b1] 25) (.cells #[.int .u64 0, .int .u64 0] 25))
  obtain ⟨c0, c1, c2, c3, c4, c5, f0, f1⟩ := T0.out.cells
  go_enter Try.func24, Try.ntmps24
  go_upto_region 1 with fail
  generalize ((w.alloc (.cells #[.int .u64 a0, .int .u64 a1] 25)).alloc (.cells #[.int .u64 b0, .int .u64 b1] 25)).alloc (.cells #[.int .u64 0, .int .u64 0] 25) = W at *
  have hlt := T0.out.lt
  go_wp2_with (first | (go_at_call 22; refine (HO.out _).mono ?_; rintro e w' ⟨rfl, rfl⟩) | (go_at_call 43; refine (point_any _ _ _).mono ?_; rintro e w' ⟨rfl, hb1⟩; replace T0 := Lib.hid (T0.out.below hb1 T0.out.lt); replace B0 := Lib.hid (chain2 B0.out hb1); clear hb1; obtain ⟨c0, c1, c2, c3, c4, c5, f0, f1⟩ := T0.out.cells) | (go_at_call 15; refine (Point_any _ _).mono ?_; rintro e w' ⟨rfl, hb1⟩; replace T0 := Lib.hid (T0.out.below hb1 T0.out.lt); replace B0 := Lib.hid (chain2 B0.out hb1); clear hb1; obtain ⟨c0, c1, c2, c3, c4, c5, f0, f1⟩ := T0.out.cells) | (go_at_call 44; refine (HH.out _).mono ?_; rintro e w' ⟨rfl, hb1⟩; replace T0 := Lib.hid (T0.out.below hb1 T0.out.lt); replace B0 := Lib.hid (chain2 B0.out hb1); clear hb1; obtain ⟨c0, c1, c2, c3, c4, c5, f0, f1⟩ := T0.out.cells))
  have q := T0.out.set (.int .u64 r1) (.int .u64 hi)
  exact bodyPost_ret (v := .tuple #[.agg #[.int .u64 r1, .int .u64 hi], .int .i64 r2]) (by simp [results, Try.results24, go_sem, q.1, q.2]) rfl ⟨rfl, (B0.out.setCell (p := ⟨w.heap.size + 1 + 1, 0, none⟩) (by show w.heap.size ≤ w.heap.size + 1 + 1; omega) _).setCell (p := ⟨w.heap.size + 1 + 1, 1, none⟩) (by show w.heap.size ≤ w.heap.size + 1 + 1; omega) _⟩
set_option maxRecDepth 100000 in
set_option maxHeartbeats 2000000 in
theorem results_addB (s : ByteArray) (a b : Int × Int) (ha : WR a) (hb : WR b) (n0 : (s.toList == [43]) = true) (hp : a.1 = a.2) (hq : ¬ b.1 = b.2) (w : World) :
    Calls Try.prog 24 #[.string s, .agg #[.int .u64 a.1, .int .u64 a.2], .agg #[.int .u64 b.1, .int .u64 b.2]] w fun e w' => e = resE (resB s.toList a b) ∧ Below w.heap.size w w' := by
  have HE : resB s.toList a b = (((opR s.toList a.1 b.1).1, highB s.toList a b), (opR s.toList a.1 b.1).2) := by
    unfold resB; rw [if_neg (by omega)]; rw [if_pos (by simp only [n0, true_or, or_true])]
  rw [HE]
  clear HE
  have hw0 := fun w' => Op_any s a.1 b.1 ha.1 hb.1 w'
  have hh := fun w' => highest_any s a b ha hb w'
  generalize highB s.toList a b = hi at *
  obtain ⟨a0, a1⟩ := a
  obtain ⟨b0, b1⟩ := b
  simp only at *
  subst hp
  generalize opR s.toList a0 b0 = r at *
  obtain ⟨r1, r2⟩ := r
  have HO : Hid (∀ w', Calls Try.prog 22 #[.string s, .int .u64 a0, .int .u64 b0] w' fun e w'' => e = .returned (.tuple #[.int .u64 r1, .int .i64 r2]) ∧ w' = w'') := Lib.hid hw0
  clear hw0
  have HH := Lib.hid hh
  clear hh
  have T0 := Lib.hid (Tri.new w a0 a0 b0 b1)
  have B0 := Lib.hid (three_below w (.cells #[.int .u64 a0, .int .u64 a0] 25) (.cells #[.int .u64 b0, .int .u64 b1] 25) (.cells #[.int .u64 0, .int .u64 0] 25))
  obtain ⟨c0, c1, c2, c3, c4, c5, f0, f1⟩ := T0.out.cells
  go_enter Try.func24, Try.ntmps24
  go_upto_region 1 with fail
  generalize ((w.alloc (.cells #[.int .u64 a0, .int .u64 a0] 25)).alloc (.cells #[.int .u64 b0, .int .u64 b1] 25)).alloc (.cells #[.int .u64 0, .int .u64 0] 25) = W at *
  have hlt := T0.out.lt
  go_wp2_with (first | (go_at_call 22; refine (HO.out _).mono ?_; rintro e w' ⟨rfl, rfl⟩) | (go_at_call 43; refine (point_any _ _ _).mono ?_; rintro e w' ⟨rfl, hb1⟩; replace T0 := Lib.hid (T0.out.below hb1 T0.out.lt); replace B0 := Lib.hid (chain2 B0.out hb1); clear hb1; obtain ⟨c0, c1, c2, c3, c4, c5, f0, f1⟩ := T0.out.cells) | (go_at_call 15; refine (Point_any _ _).mono ?_; rintro e w' ⟨rfl, hb1⟩; replace T0 := Lib.hid (T0.out.below hb1 T0.out.lt); replace B0 := Lib.hid (chain2 B0.out hb1); clear hb1; obtain ⟨c0, c1, c2, c3, c4, c5, f0, f1⟩ := T0.out.cells) | (go_at_call 44; refine (HH.out _).mono ?_; rintro e w' ⟨rfl, hb1⟩; replace T0 := Lib.hid (T0.out.below hb1 T0.out.lt); replace B0 := Lib.hid (chain2 B0.out hb1); clear hb1; obtain ⟨c0, c1, c2, c3, c4, c5, f0, f1⟩ := T0.out.cells))
  have q := T0.out.set (.int .u64 r1) (.int .u64 hi)
  exact bodyPost_ret (v := .tuple #[.agg #[.int .u64 r1, .int .u64 hi], .int .i64 r2]) (by simp [results, Try.results24, go_sem, q.1, q.2]) rfl ⟨rfl, (B0.out.setCell (p := ⟨w.heap.size + 1 + 1, 0, none⟩) (by show w.heap.size ≤ w.heap.size + 1 + 1; omega) _).setCell (p := ⟨w.heap.size + 1 + 1, 1, none⟩) (by show w.heap.size ≤ w.heap.size + 1 + 1; omega) _⟩
set_option maxRecDepth 100000 in
set_option maxHeartbeats 2000000 in
theorem results_mulA (s : ByteArray) (a b : Int × Int) (ha : WR a) (hb : WR b) (n0 : (s.toList == [43]) = false) (n1 : (s.toList == [42]) = true) (hp : ¬ a.1 = a.2) (w : World) :
    Calls Try.prog 24 #[.string s, .agg #[.int .u64 a.1, .int .u64 a.2], .agg #[.int .u64 b.1, .int .u64 b.2]] w fun e w' => e = resE (resB s.toList a b) ∧ Below w.heap.size w w' := by
  have HE : resB s.toList a b = (((opR s.toList a.1 b.1).1, highB s.toList a b), (opR s.toList a.1 b.1).2) := by
    unfold resB; rw [if_neg (by omega)]; rw [if_pos (by simp only [n1, true_or, or_true])]
  rw [HE]
  clear HE
  have hw0 := fun w' => Op_any s a.1 b.1 ha.1 hb.1 w'
  have hh := fun w' => highest_any s a b ha hb w'
  generalize highB s.toList a b = hi at *
  obtain ⟨a0, a1⟩ := a
  obtain ⟨b0, b1⟩ := b
  simp only at *
  generalize opR s.toList a0 b0 = r at *
  obtain ⟨r1, r2⟩ := r
  have HO : Hid (∀ w', Calls Try.prog 22 #[.string s, .int .u64 a0, .int .u64 b0] w' fun e w'' => e = .returned (.tuple #[.int .u64 r1, .int .i64 r2]) ∧ w' = w'') := Lib.hid hw0
  clear hw0
  have HH := Lib.hid hh
  clear hh
  have T0 := Lib.hid (Tri.new w a0 a1 b0 b1)
  have B0 := Lib.hid (three_below w (.cells #[.int .u64 a0, .int .u64 a1] 25) (.cells #[.int .u64 b0, .int .u64 b1] 25) (.cells #[.int .u64 0, .int .u64 0] 25))
  obtain ⟨c0, c1, c2, c3, c4, c5, f0, f1⟩ := T0.out.cells
  go_enter Try.func24, Try.ntmps24
  go_upto_region 1 with fail
  generalize ((w.alloc (.cells #[.int .u64 a0, .int .u64 a1] 25)).alloc (.cells #[.int .u64 b0, .int .u64 b1] 25)).alloc (.cells #[.int .u64 0, .int .u64 0] 25) = W at *
  have hlt := T0.out.lt
  go_wp2_with (first | (go_at_call 22; refine (HO.out _).mono ?_; rintro e w' ⟨rfl, rfl⟩) | (go_at_call 43; refine (point_any _ _ _).mono ?_; rintro e w' ⟨rfl, hb1⟩; replace T0 := Lib.hid (T0.out.below hb1 T0.out.lt); replace B0 := Lib.hid (chain2 B0.out hb1); clear hb1; obtain ⟨c0, c1, c2, c3, c4, c5, f0, f1⟩ := T0.out.cells) | (go_at_call 15; refine (Point_any _ _).mono ?_; rintro e w' ⟨rfl, hb1⟩; replace T0 := Lib.hid (T0.out.below hb1 T0.out.lt); replace B0 := Lib.hid (chain2 B0.out hb1); clear hb1; obtain ⟨c0, c1, c2, c3, c4, c5, f0, f1⟩ := T0.out.cells) | (go_at_call 44; refine (HH.out _).mono ?_; rintro e w' ⟨rfl, hb1⟩; replace T0 := Lib.hid (T0.out.below hb1 T0.out.lt); replace B0 := Lib.hid (chain2 B0.out hb1); clear hb1; obtain ⟨c0, c1, c2, c3, c4, c5, f0, f1⟩ := T0.out.cells))
  have q := T0.out.set (.int .u64 r1) (.int .u64 hi)
  exact bodyPost_ret (v := .tuple #[.agg #[.int .u64 r1, .int .u64 hi], .int .i64 r2]) (by simp [results, Try.results24, go_sem, q.1, q.2]) rfl ⟨rfl, (B0.out.setCell (p := ⟨w.heap.size + 1 + 1, 0, none⟩) (by show w.heap.size ≤ w.heap.size + 1 + 1; omega) _).setCell (p := ⟨w.heap.size + 1 + 1, 1, none⟩) (by show w.heap.size ≤ w.heap.size + 1 + 1; omega) _⟩
set_option maxRecDepth 100000 in
set_option maxHeartbeats 2000000 in
theorem results_mulB (s : ByteArray) (a b : Int × Int) (ha : WR a) (hb : WR b) (n0 : (s.toList == [43]) = false) (n1 : (s.toList == [42]) = true) (hp : a.1 = a.2) (hq : ¬ b.1 = b.2) (w : World) :
    Calls Try.prog 24 #[.string s, .agg #[.int .u64 a.1, .int .u64 a.2], .agg #[.int .u64 b.1, .int .u64 b.2]] w fun e w' => e = resE (resB s.toList a b) ∧ Below w.heap.size w w' := by
  have HE : resB s.toList a b = (((opR s.toList a.1 b.1).1, highB s.toList a b), (opR s.toList a.1 b.1).2) := by
    unfold resB; rw [if_neg (by omega)]; rw [if_pos (by simp only [n1, true_or, or_true])]
  rw [HE]
  clear HE
  have hw0 := fun w' => Op_any s a.1 b.1 ha.1 hb.1 w'
  have hh := fun w' => highest_any s a b ha hb w'
  generalize highB s.toList a b = hi at *
  obtain ⟨a0, a1⟩ := a
  obtain ⟨b0, b1⟩ := b
  simp only at *
  subst hp
  generalize opR s.toList a0 b0 = r at *
  obtain ⟨r1, r2⟩ := r
  have HO : Hid (∀ w', Calls Try.prog 22 #[.string s, .int .u64 a0, .int .u64 b0] w' fun e w'' => e = .returned (.tuple #[.int .u64 r1, .int .i64 r2]) ∧ w' = w'') := Lib.hid hw0
  clear hw0
  have HH := Lib.hid hh
  clear hh
  have T0 := Lib.hid (Tri.new w a0 a0 b0 b1)
  have B0 := Lib.hid (three_below w (.cells #[.int .u64 a0, .int .u64 a0] 25) (.cells #[.int .u64 b0, .int .u64 b1] 25) (.cells #[.int .u64 0, .int .u64 0] 25))
  obtain ⟨c0, c1, c2, c3, c4, c5, f0, f1⟩ := T0.out.cells
  go_enter Try.func24, Try.ntmps24
  go_upto_region 1 with fail
  generalize ((w.alloc (.cells #[.int .u64 a0, .int .u64 a0] 25)).alloc (.cells #[.int .u64 b0, .int .u64 b1] 25)).alloc (.cells #[.int .u64 0, .int .u64 0] 25) = W at *
  have hlt := T0.out.lt
  go_wp2_with (first | (go_at_call 22; refine (HO.out _).mono ?_; rintro e w' ⟨rfl, rfl⟩) | (go_at_call 43; refine (point_any _ _ _).mono ?_; rintro e w' ⟨rfl, hb1⟩; replace T0 := Lib.hid (T0.out.below hb1 T0.out.lt); replace B0 := Lib.hid (chain2 B0.out hb1); clear hb1; obtain ⟨c0, c1, c2, c3, c4, c5, f0, f1⟩ := T0.out.cells) | (go_at_call 15; refine (Point_any _ _).mono ?_; rintro e w' ⟨rfl, hb1⟩; replace T0 := Lib.hid (T0.out.below hb1 T0.out.lt); replace B0 := Lib.hid (chain2 B0.out hb1); clear hb1; obtain ⟨c0, c1, c2, c3, c4, c5, f0, f1⟩ := T0.out.cells) | (go_at_call 44; refine (HH.out _).mono ?_; rintro e w' ⟨rfl, hb1⟩; replace T0 := Lib.hid (T0.out.below hb1 T0.out.lt); replace B0 := Lib.hid (chain2 B0.out hb1); clear hb1; obtain ⟨c0, c1, c2, c3, c4, c5, f0, f1⟩ := T0.out.cells))
  have q := T0.out.set (.int .u64 r1) (.int .u64 hi)
  exact bodyPost_ret (v := .tuple #[.agg #[.int .u64 r1, .int .u64 hi], .int .i64 r2]) (by simp [results, Try.results24, go_sem, q.1, q.2]) rfl ⟨rfl, (B0.out.setCell (p := ⟨w.heap.size + 1 + 1, 0, none⟩) (by show w.heap.size ≤ w.heap.size + 1 + 1; omega) _).setCell (p := ⟨w.heap.size + 1 + 1, 1, none⟩) (by show w.heap.size ≤ w.heap.size + 1 + 1; omega) _⟩
set_option maxRecDepth 100000 in
set_option maxHeartbeats 2000000 in
theorem results_shlA (s : ByteArray) (a b : Int × Int) (ha : WR a) (hb : WR b) (n0 : (s.toList == [43]) = false) (n1 : (s.toList == [42]) = false) (n2 : (s.toList == [60, 60]) = true) (hp : ¬ a.1 = a.2) (w : World) :
    Calls Try.prog 24 #[.string s, .agg #[.int .u64 a.1, .int .u64 a.2], .agg #[.int .u64 b.1, .int .u64 b.2]] w fun e w' => e = resE (resB s.toList a b) ∧ Below w.heap.size w w' := by
  have HE : resB s.toList a b = (((opR s.toList a.1 b.1).1, highB s.toList a b), (opR s.toList a.1 b.1).2) := by
    unfold resB; rw [if_neg (by omega)]; rw [if_pos (by simp only [n2, true_or, or_true])]
  rw [HE]
  clear HE
  have hw0 := fun w' => Op_any s a.1 b.1 ha.1 hb.1 w'
  have hh := fun w' => highest_any s a b ha hb w'
  generalize highB s.toList a b = hi at *
  obtain ⟨a0, a1⟩ := a
  obtain ⟨b0, b1⟩ := b
  simp only at *
  generalize opR s.toList a0 b0 = r at *
  obtain ⟨r1, r2⟩ := r
  have HO : Hid (∀ w', Calls Try.prog 22 #[.string s, .int .u64 a0, .int .u64 b0] w' fun e w'' => e = .returned (.tuple #[.int .u64 r1, .int .i64 r2]) ∧ w' = w'') := Lib.hid hw0
  clear hw0
  have HH := Lib.hid hh
  clear hh
  have T0 := Lib.hid (Tri.new w a0 a1 b0 b1)
  have B0 := Lib.hid (three_below w (.cells #[.int .u64 a0, .int .u64 a1] 25) (.cells #[.int .u64 b0, .int .u64 b1] 25) (.cells #[.int .u64 0, .int .u64 0] 25))
  obtain ⟨c0, c1, c2, c3, c4, c5, f0, f1⟩ := T0.out.cells
  go_enter Try.func24, Try.ntmps24
  go_upto_region 1 with fail
  generalize ((w.alloc (.cells #[.int .u64 a0, .int .u64 a1] 25)).alloc (.cells #[.int .u64 b0, .int .u64 b1] 25)).alloc (.cells #[.int .u64 0, .int .u64 0] 25) = W at *
  have hlt := T0.out.lt
  go_wp2_with (first | (go_at_call 22; refine (HO.out _).mono ?_; rintro e w' ⟨rfl, rfl⟩) | (go_at_call 43; refine (point_any _ _ _).mono ?_; rintro e w' ⟨rfl, hb1⟩; replace T0 := Lib.hid (T0.out.below hb1 T0.out.lt); replace B0 := Lib.hid (chain2 B0.out hb1); clear hb1; obtain ⟨c0, c1, c2, c3, c4, c5, f0, f1⟩ := T0.out.cells) | (go_at_call 15; refine (Point_any _ _).mono ?_; rintro e w' ⟨rfl, hb1⟩; replace T0 := Lib.hid (T0.out.below hb1 T0.out.lt); replace B0 := Lib.hid (chain2 B0.out hb1); clear hb1; obtain ⟨c0, c1, c2, c3, c4, c5, f0, f1⟩ := T0.out.cells) | (go_at_call 44; refine (HH.out _).mono ?_; rintro e w' ⟨rfl, hb1⟩; replace T0 := Lib.hid (T0.out.below hb1 T0.out.lt); replace B0 := Lib.hid (chain2 B0.out hb1); clear hb1; obtain ⟨c0, c1, c2, c3, c4, c5, f0, f1⟩ := T0.out.cells))
  have q := T0.out.set (.int .u64 r1) (.int .u64 hi)
  exact bodyPost_ret (v := .tuple #[.agg #[.int .u64 r1, .int .u64 hi], .int .i64 r2]) (by simp [results, Try.results24, go_sem, q.1, q.2]) rfl ⟨rfl, (B0.out.setCell (p := ⟨w.heap.size + 1 + 1, 0, none⟩) (by show w.heap.size ≤ w.heap.size + 1 + 1; omega) _).setCell (p := ⟨w.heap.size + 1 + 1, 1, none⟩) (by show w.heap.size ≤ w.heap.size + 1 + 1; omega) _⟩
set_option maxRecDepth 100000 in
set_option maxHeartbeats 2000000 in
theorem results_shlB (s : ByteArray) (a b : Int × Int) (ha : WR a) (hb : WR b) (n0 : (s.toList == [43]) = false) (n1 : (s.toList == [42]) = false) (n2 : (s.toList == [60, 60]) = true) (hp : a.1 = a.2) (hq : ¬ b.1 = b.2) (w : World) :
    Calls Try.prog 24 #[.string s, .agg #[.int .u64 a.1, .int .u64 a.2], .agg #[.int .u64 b.1, .int .u64 b.2]] w fun e w' => e = resE (resB s.toList a b) ∧ Below w.heap.size w w' := by
  have HE : resB s.toList a b = (((opR s.toList a.1 b.1).1, highB s.toList a b), (opR s.toList a.1 b.1).2) := by
    unfold resB; rw [if_neg (by omega)]; rw [if_pos (by simp only [n2, true_or, or_true])]
  rw [HE]
  clear HE
  have hw0 := fun w' => Op_any s a.1 b.1 ha.1 hb.1 w'
  have hh := fun w' => highest_any s a b ha hb w'
  generalize highB s.toList a b = hi at *
  obtain ⟨a0, a1⟩ := a
  obtain ⟨b0, b1⟩ := b
  simp only at *
  subst hp
  generalize opR s.toList a0 b0 = r at *
  obtain ⟨r1, r2⟩ := r
  have HO : Hid (∀ w', Calls Try.prog 22 #[.string s, .int .u64 a0, .int .u64 b0] w' fun e w'' => e = .returned (.tuple #[.int .u64 r1, .int .i64 r2]) ∧ w' = w'') := Lib.hid hw0
  clear hw0
  have HH := Lib.hid hh
  clear hh
  have T0 := Lib.hid (Tri.new w a0 a0 b0 b1)
  have B0 := Lib.hid (three_below w (.cells #[.int .u64 a0, .int .u64 a0] 25) (.cells #[.int .u64 b0, .int .u64 b1] 25) (.cells #[.int .u64 0, .int .u64 0] 25))
  obtain ⟨c0, c1, c2, c3, c4, c5, f0, f1⟩ := T0.out.cells
  go_enter Try.func24, Try.ntmps24
  go_upto_region 1 with fail
  generalize ((w.alloc (.cells #[.int .u64 a0, .int .u64 a0] 25)).alloc (.cells #[.int .u64 b0, .int .u64 b1] 25)).alloc (.cells #[.int .u64 0, .int .u64 0] 25) = W at *
  have hlt := T0.out.lt
  go_wp2_with (first | (go_at_call 22; refine (HO.out _).mono ?_; rintro e w' ⟨rfl, rfl⟩) | (go_at_call 43; refine (point_any _ _ _).mono ?_; rintro e w' ⟨rfl, hb1⟩; replace T0 := Lib.hid (T0.out.below hb1 T0.out.lt); replace B0 := Lib.hid (chain2 B0.out hb1); clear hb1; obtain ⟨c0, c1, c2, c3, c4, c5, f0, f1⟩ := T0.out.cells) | (go_at_call 15; refine (Point_any _ _).mono ?_; rintro e w' ⟨rfl, hb1⟩; replace T0 := Lib.hid (T0.out.below hb1 T0.out.lt); replace B0 := Lib.hid (chain2 B0.out hb1); clear hb1; obtain ⟨c0, c1, c2, c3, c4, c5, f0, f1⟩ := T0.out.cells) | (go_at_call 44; refine (HH.out _).mono ?_; rintro e w' ⟨rfl, hb1⟩; replace T0 := Lib.hid (T0.out.below hb1 T0.out.lt); replace B0 := Lib.hid (chain2 B0.out hb1); clear hb1; obtain ⟨c0, c1, c2, c3, c4, c5, f0, f1⟩ := T0.out.cells))
  have q := T0.out.set (.int .u64 r1) (.int .u64 hi)
  exact bodyPost_ret (v := .tuple #[.agg #[.int .u64 r1, .int .u64 hi], .int .i64 r2]) (by simp [results, Try.results24, go_sem, q.1, q.2]) rfl ⟨rfl, (B0.out.setCell (p := ⟨w.heap.size + 1 + 1, 0, none⟩) (by show w.heap.size ≤ w.heap.size + 1 + 1; omega) _).setCell (p := ⟨w.heap.size + 1 + 1, 1, none⟩) (by show w.heap.size ≤ w.heap.size + 1 + 1; omega) _⟩
set_option maxRecDepth 100000 in
set_option maxHeartbeats 2000000 in
theorem results_subA (s : ByteArray) (a b : Int × Int) (ha : WR a) (hb : WR b) (n0 : (s.toList == [43]) = false) (n1 : (s.toList == [42]) = false) (n2 : (s.toList == [60, 60]) = false) (n3 : (s.toList == [45]) = true) (hp : ¬ a.1 = a.2) (w : World) :
    Calls Try.prog 24 #[.string s, .agg #[.int .u64 a.1, .int .u64 a.2], .agg #[.int .u64 b.1, .int .u64 b.2]] w fun e w' => e = resE (resB s.toList a b) ∧ Below w.heap.size w w' := by
  have HE : resB s.toList a b = (((subR a.1 b.2).1, (subR a.2 b.1).1), (subR a.2 b.1).2) := by
    unfold resB; rw [if_neg (by omega)]; rw [if_neg (by simp only [n0, n1, n2]; decide), if_pos n3]
  rw [HE]
  clear HE
  have hw0 := fun w' => Op_any s a.1 b.1 ha.1 hb.1 w'
  have hc1 := fun w' => Sub_any a.1 b.2 ha.1 hb.2 w'
  have hc2 := fun w' => Sub_any a.2 b.1 ha.2 hb.1 w'
  obtain ⟨a0, a1⟩ := a
  obtain ⟨b0, b1⟩ := b
  simp only at *
  generalize opR s.toList a0 b0 = r at *
  obtain ⟨r1, r2⟩ := r
  have HO : Hid (∀ w', Calls Try.prog 22 #[.string s, .int .u64 a0, .int .u64 b0] w' fun e w'' => e = .returned (.tuple #[.int .u64 r1, .int .i64 r2]) ∧ w' = w'') := Lib.hid hw0
  clear hw0
  generalize subR a0 b1 = p1 at *
  obtain ⟨p1a, p1b⟩ := p1
  have HC1 : Hid (∀ w', Calls Try.prog 36 #[.int .u64 a0, .int .u64 b1] w' fun e w'' => e = .returned (.tuple #[.int .u64 p1a, .int .i64 p1b]) ∧ w' = w'') := Lib.hid hc1
  clear hc1
  generalize subR a1 b0 = p2 at *
  obtain ⟨p2a, p2b⟩ := p2
  have HC2 : Hid (∀ w', Calls Try.prog 36 #[.int .u64 a1, .int .u64 b0] w' fun e w'' => e = .returned (.tuple #[.int .u64 p2a, .int .i64 p2b]) ∧ w' = w'') := Lib.hid hc2
  clear hc2
  have T0 := Lib.hid (Tri.new w a0 a1 b0 b1)
  have B0 := Lib.hid (three_below w (.cells #[.int .u64 a0, .int .u64 a1] 25) (.cells #[.int .u64 b0, .int .u64 b1] 25) (.cells #[.int .u64 0, .int .u64 0] 25))
  obtain ⟨c0, c1, c2, c3, c4, c5, f0, f1⟩ := T0.out.cells
  go_enter Try.func24, Try.ntmps24
  go_upto_region 1 with fail
  generalize ((w.alloc (.cells #[.int .u64 a0, .int .u64 a1] 25)).alloc (.cells #[.int .u64 b0, .int .u64 b1] 25)).alloc (.cells #[.int .u64 0, .int .u64 0] 25) = W at *
  have hlt := T0.out.lt
  go_wp2_with (first | (go_at_call 22; refine (HO.out _).mono ?_; rintro e w' ⟨rfl, rfl⟩) | (go_at_call 43; refine (point_any _ _ _).mono ?_; rintro e w' ⟨rfl, hb1⟩; replace T0 := Lib.hid (T0.out.below hb1 T0.out.lt); replace B0 := Lib.hid (chain2 B0.out hb1); clear hb1; obtain ⟨c0, c1, c2, c3, c4, c5, f0, f1⟩ := T0.out.cells) | (go_at_call 15; refine (Point_any _ _).mono ?_; rintro e w' ⟨rfl, hb1⟩; replace T0 := Lib.hid (T0.out.below hb1 T0.out.lt); replace B0 := Lib.hid (chain2 B0.out hb1); clear hb1; obtain ⟨c0, c1, c2, c3, c4, c5, f0, f1⟩ := T0.out.cells) | (go_at_call_of 36 b1; refine (HC1.out _).mono ?_; rintro e w' ⟨rfl, rfl⟩) | (go_at_call_of 36 b0; refine (HC2.out _).mono ?_; rintro e w' ⟨rfl, rfl⟩))
  have q := T0.out.set (.int .u64 p1a) (.int .u64 p2a)
  exact bodyPost_ret (v := .tuple #[.agg #[.int .u64 p1a, .int .u64 p2a], .int .i64 p2b]) (by simp [results, Try.results24, go_sem, q.1, q.2]) rfl ⟨rfl, (B0.out.setCell (p := ⟨w.heap.size + 1 + 1, 0, none⟩) (by show w.heap.size ≤ w.heap.size + 1 + 1; omega) _).setCell (p := ⟨w.heap.size + 1 + 1, 1, none⟩) (by show w.heap.size ≤ w.heap.size + 1 + 1; omega) _⟩
set_option maxRecDepth 100000 in
set_option maxHeartbeats 2000000 in
theorem results_subB (s : ByteArray) (a b : Int × Int) (ha : WR a) (hb : WR b) (n0 : (s.toList == [43]) = false) (n1 : (s.toList == [42]) = false) (n2 : (s.toList == [60, 60]) = false) (n3 : (s.toList == [45]) = true) (hp : a.1 = a.2) (hq : ¬ b.1 = b.2) (w : World) :
    Calls Try.prog 24 #[.string s, .agg #[.int .u64 a.1, .int .u64 a.2], .agg #[.int .u64 b.1, .int .u64 b.2]] w fun e w' => e = resE (resB s.toList a b) ∧ Below w.heap.size w w' := by
  have HE : resB s.toList a b = (((subR a.1 b.2).1, (subR a.2 b.1).1), (subR a.2 b.1).2) := by
    unfold resB; rw [if_neg (by omega)]; rw [if_neg (by simp only [n0, n1, n2]; decide), if_pos n3]
  rw [HE]
  clear HE
  have hw0 := fun w' => Op_any s a.1 b.1 ha.1 hb.1 w'
  have hc1 := fun w' => Sub_any a.1 b.2 ha.1 hb.2 w'
  have hc2 := fun w' => Sub_any a.2 b.1 ha.2 hb.1 w'
  obtain ⟨a0, a1⟩ := a
  obtain ⟨b0, b1⟩ := b
  simp only at *
  subst hp
  generalize opR s.toList a0 b0 = r at *
  obtain ⟨r1, r2⟩ := r
  have HO : Hid (∀ w', Calls Try.prog 22 #[.string s, .int .u64 a0, .int .u64 b0] w' fun e w'' => e = .returned (.tuple #[.int .u64 r1, .int .i64 r2]) ∧ w' = w'') := Lib.hid hw0
  clear hw0
  generalize subR a0 b1 = p1 at *
  obtain ⟨p1a, p1b⟩ := p1
  have HC1 : Hid (∀ w', Calls Try.prog 36 #[.int .u64 a0, .int .u64 b1] w' fun e w'' => e = .returned (.tuple #[.int .u64 p1a, .int .i64 p1b]) ∧ w' = w'') := Lib.hid hc1
  clear hc1
  generalize subR a0 b0 = p2 at *
  obtain ⟨p2a, p2b⟩ := p2
  have HC2 : Hid (∀ w', Calls Try.prog 36 #[.int .u64 a0, .int .u64 b0] w' fun e w'' => e = .returned (.tuple #[.int .u64 p2a, .int .i64 p2b]) ∧ w' = w'') := Lib.hid hc2
  clear hc2
  have T0 := Lib.hid (Tri.new w a0 a0 b0 b1)
  have B0 := Lib.hid (three_below w (.cells #[.int .u64 a0, .int .u64 a0] 25) (.cells #[.int .u64 b0, .int .u64 b1] 25) (.cells #[.int .u64 0, .int .u64 0] 25))
  obtain ⟨c0, c1, c2, c3, c4, c5, f0, f1⟩ := T0.out.cells
  go_enter Try.func24, Try.ntmps24
  go_upto_region 1 with fail
  generalize ((w.alloc (.cells #[.int .u64 a0, .int .u64 a0] 25)).alloc (.cells #[.int .u64 b0, .int .u64 b1] 25)).alloc (.cells #[.int .u64 0, .int .u64 0] 25) = W at *
  have hlt := T0.out.lt
  go_wp2_with (first | (go_at_call 22; refine (HO.out _).mono ?_; rintro e w' ⟨rfl, rfl⟩) | (go_at_call 43; refine (point_any _ _ _).mono ?_; rintro e w' ⟨rfl, hb1⟩; replace T0 := Lib.hid (T0.out.below hb1 T0.out.lt); replace B0 := Lib.hid (chain2 B0.out hb1); clear hb1; obtain ⟨c0, c1, c2, c3, c4, c5, f0, f1⟩ := T0.out.cells) | (go_at_call 15; refine (Point_any _ _).mono ?_; rintro e w' ⟨rfl, hb1⟩; replace T0 := Lib.hid (T0.out.below hb1 T0.out.lt); replace B0 := Lib.hid (chain2 B0.out hb1); clear hb1; obtain ⟨c0, c1, c2, c3, c4, c5, f0, f1⟩ := T0.out.cells) | (go_at_call_of 36 b1; refine (HC1.out _).mono ?_; rintro e w' ⟨rfl, rfl⟩) | (go_at_call_of 36 b0; refine (HC2.out _).mono ?_; rintro e w' ⟨rfl, rfl⟩))
  have q := T0.out.set (.int .u64 p1a) (.int .u64 p2a)
  exact bodyPost_ret (v := .tuple #[.agg #[.int .u64 p1a, .int .u64 p2a], .int .i64 p2b]) (by simp [results, Try.results24, go_sem, q.1, q.2]) rfl ⟨rfl, (B0.out.setCell (p := ⟨w.heap.size + 1 + 1, 0, none⟩) (by show w.heap.size ≤ w.heap.size + 1 + 1; omega) _).setCell (p := ⟨w.heap.size + 1 + 1, 1, none⟩) (by show w.heap.size ≤ w.heap.size + 1 + 1; omega) _⟩
set_option maxRecDepth 100000 in
set_option maxHeartbeats 2000000 in
theorem results_divA (s : ByteArray) (a b : Int × Int) (ha : WR a) (hb : WR b) (n0 : (s.toList == [43]) = false) (n1 : (s.toList == [42]) = false) (n2 : (s.toList == [60, 60]) = false) (n3 : (s.toList == [45]) = false) (n4 : (s.toList == [47]) = true) (hp : ¬ a.1 = a.2) (w : World) :
    Calls Try.prog 24 #[.string s, .agg #[.int .u64 a.1, .int .u64 a.2], .agg #[.int .u64 b.1, .int .u64 b.2]] w fun e w' => e = resE (resB s.toList a b) ∧ Below w.heap.size w w' := by
  have HE : resB s.toList a b = (((divR a.1 b.2).1, a.2 / max b.1 1), (divR a.1 b.2).2) := by
    unfold resB; rw [if_neg (by omega)]; rw [if_neg (by simp only [n0, n1, n2]; decide), if_neg (by rw [n3]; decide), if_pos n4]
  rw [HE]
  clear HE
  have hw0 := fun w' => Op_any s a.1 b.1 ha.1 hb.1 w'
  have hc1 := fun w' => Div_any a.1 b.2 ha.1 hb.2 w'
  have hz : (max b.1 1 == 0) = false := by rw [beq_eq_false_iff_ne]; omega
  have hz2 : 0 ≤ max b.1 1 := by omega
  have hz3 := ha.2.1
  have hz4 := ha.2.2
  obtain ⟨hw1, hw2⟩ := div_le (a := a.2) (b := max b.1 1) ha.2 (by omega)
  obtain ⟨a0, a1⟩ := a
  obtain ⟨b0, b1⟩ := b
  simp only at *
  generalize opR s.toList a0 b0 = r at *
  obtain ⟨r1, r2⟩ := r
  have HO : Hid (∀ w', Calls Try.prog 22 #[.string s, .int .u64 a0, .int .u64 b0] w' fun e w'' => e = .returned (.tuple #[.int .u64 r1, .int .i64 r2]) ∧ w' = w'') := Lib.hid hw0
  clear hw0
  generalize divR a0 b1 = p1 at *
  obtain ⟨p1a, p1b⟩ := p1
  have HC1 : Hid (∀ w', Calls Try.prog 38 #[.int .u64 a0, .int .u64 b1] w' fun e w'' => e = .returned (.tuple #[.int .u64 p1a, .int .i64 p1b]) ∧ w' = w'') := Lib.hid hc1
  clear hc1
  have T0 := Lib.hid (Tri.new w a0 a1 b0 b1)
  have B0 := Lib.hid (three_below w (.cells #[.int .u64 a0, .int .u64 a1] 25) (.cells #[.int .u64 b0, .int .u64 b1] 25) (.cells #[.int .u64 0, .int .u64 0] 25))
  obtain ⟨c0, c1, c2, c3, c4, c5, f0, f1⟩ := T0.out.cells
  go_enter Try.func24, Try.ntmps24
  go_upto_region 1 with fail
  generalize ((w.alloc (.cells #[.int .u64 a0, .int .u64 a1] 25)).alloc (.cells #[.int .u64 b0, .int .u64 b1] 25)).alloc (.cells #[.int .u64 0, .int .u64 0] 25) = W at *
  have hlt := T0.out.lt
  go_wp2_with (first | (go_at_call 22; refine (HO.out _).mono ?_; rintro e w' ⟨rfl, rfl⟩) | (go_at_call 43; refine (point_any _ _ _).mono ?_; rintro e w' ⟨rfl, hb1⟩; replace T0 := Lib.hid (T0.out.below hb1 T0.out.lt); replace B0 := Lib.hid (chain2 B0.out hb1); clear hb1; obtain ⟨c0, c1, c2, c3, c4, c5, f0, f1⟩ := T0.out.cells) | (go_at_call 15; refine (Point_any _ _).mono ?_; rintro e w' ⟨rfl, hb1⟩; replace T0 := Lib.hid (T0.out.below hb1 T0.out.lt); replace B0 := Lib.hid (chain2 B0.out hb1); clear hb1; obtain ⟨c0, c1, c2, c3, c4, c5, f0, f1⟩ := T0.out.cells) | (go_at_call 38; refine (HC1.out _).mono ?_; rintro e w' ⟨rfl, rfl⟩))
  have q := T0.out.set (.int .u64 p1a) (.int .u64 (a1 / max b0 1))
  exact bodyPost_ret (v := .tuple #[.agg #[.int .u64 p1a, .int .u64 (a1 / max b0 1)], .int .i64 p1b]) (by simp [results, Try.results24, go_sem, q.1, q.2]) rfl ⟨rfl, (B0.out.setCell (p := ⟨w.heap.size + 1 + 1, 0, none⟩) (by show w.heap.size ≤ w.heap.size + 1 + 1; omega) _).setCell (p := ⟨w.heap.size + 1 + 1, 1, none⟩) (by show w.heap.size ≤ w.heap.size + 1 + 1; omega) _⟩
set_option maxRecDepth 100000 in
set_option maxHeartbeats 2000000 in
theorem results_divB (s : ByteArray) (a b : Int × Int) (ha : WR a) (hb : WR b) (n0 : (s.toList == [43]) = false) (n1 : (s.toList == [42]) = false) (n2 : (s.toList == [60, 60]) = false) (n3 : (s.toList == [45]) = false) (n4 : (s.toList == [47]) = true) (hp : a.1 = a.2) (hq : ¬ b.1 = b.2) (w : World) :
    Calls Try.prog 24 #[.string s, .agg #[.int .u64 a.1, .int .u64 a.2], .agg #[.int .u64 b.1, .int .u64 b.2]] w fun e w' => e = resE (resB s.toList a b) ∧ Below w.heap.size w w' := by
  have HE : resB s.toList a b = (((divR a.1 b.2).1, a.2 / max b.1 1), (divR a.1 b.2).2) := by
    unfold resB; rw [if_neg (by omega)]; rw [if_neg (by simp only [n0, n1, n2]; decide), if_neg (by rw [n3]; decide), if_pos n4]
  rw [HE]
  clear HE
  have hw0 := fun w' => Op_any s a.1 b.1 ha.1 hb.1 w'
  have hc1 := fun w' => Div_any a.1 b.2 ha.1 hb.2 w'
  have hz : (max b.1 1 == 0) = false := by rw [beq_eq_false_iff_ne]; omega
  have hz2 : 0 ≤ max b.1 1 := by omega
  have hz3 := ha.2.1
  have hz4 := ha.2.2
  obtain ⟨hw1, hw2⟩ := div_le (a := a.2) (b := max b.1 1) ha.2 (by omega)
  obtain ⟨a0, a1⟩ := a
  obtain ⟨b0, b1⟩ := b
  simp only at *
  subst hp
  generalize opR s.toList a0 b0 = r at *
  obtain ⟨r1, r2⟩ := r
  have HO : Hid (∀ w', Calls Try.prog 22 #[.string s, .int .u64 a0, .int .u64 b0] w' fun e w'' => e = .returned (.tuple #[.int .u64 r1, .int .i64 r2]) ∧ w' = w'') := Lib.hid hw0
  clear hw0
  generalize divR a0 b1 = p1 at *
  obtain ⟨p1a, p1b⟩ := p1
  have HC1 : Hid (∀ w', Calls Try.prog 38 #[.int .u64 a0, .int .u64 b1] w' fun e w'' => e = .returned (.tuple #[.int .u64 p1a, .int .i64 p1b]) ∧ w' = w'') := Lib.hid hc1
  clear hc1
  have T0 := Lib.hid (Tri.new w a0 a0 b0 b1)
  have B0 := Lib.hid (three_below w (.cells #[.int .u64 a0, .int .u64 a0] 25) (.cells #[.int .u64 b0, .int .u64 b1] 25) (.cells #[.int .u64 0, .int .u64 0] 25))
  obtain ⟨c0, c1, c2, c3, c4, c5, f0, f1⟩ := T0.out.cells
  go_enter Try.func24, Try.ntmps24
  go_upto_region 1 with fail
  generalize ((w.alloc (.cells #[.int .u64 a0, .int .u64 a0] 25)).alloc (.cells #[.int .u64 b0, .int .u64 b1] 25)).alloc (.cells #[.int .u64 0, .int .u64 0] 25) = W at *
  have hlt := T0.out.lt
  go_wp2_with (first | (go_at_call 22; refine (HO.out _).mono ?_; rintro e w' ⟨rfl, rfl⟩) | (go_at_call 43; refine (point_any _ _ _).mono ?_; rintro e w' ⟨rfl, hb1⟩; replace T0 := Lib.hid (T0.out.below hb1 T0.out.lt); replace B0 := Lib.hid (chain2 B0.out hb1); clear hb1; obtain ⟨c0, c1, c2, c3, c4, c5, f0, f1⟩ := T0.out.cells) | (go_at_call 15; refine (Point_any _ _).mono ?_; rintro e w' ⟨rfl, hb1⟩; replace T0 := Lib.hid (T0.out.below hb1 T0.out.lt); replace B0 := Lib.hid (chain2 B0.out hb1); clear hb1; obtain ⟨c0, c1, c2, c3, c4, c5, f0, f1⟩ := T0.out.cells) | (go_at_call 38; refine (HC1.out _).mono ?_; rintro e w' ⟨rfl, rfl⟩))
  have q := T0.out.set (.int .u64 p1a) (.int .u64 (a0 / max b0 1))
  exact bodyPost_ret (v := .tuple #[.agg #[.int .u64 p1a, .int .u64 (a0 / max b0 1)], .int .i64 p1b]) (by simp [results, Try.results24, go_sem, q.1, q.2]) rfl ⟨rfl, (B0.out.setCell (p := ⟨w.heap.size + 1 + 1, 0, none⟩) (by show w.heap.size ≤ w.heap.size + 1 + 1; omega) _).setCell (p := ⟨w.heap.size + 1 + 1, 1, none⟩) (by show w.heap.size ≤ w.heap.size + 1 + 1; omega) _⟩
set_option maxRecDepth 100000 in
set_option maxHeartbeats 2000000 in
theorem results_modA (s : ByteArray) (a b : Int × Int) (ha : WR a) (hb : WR b) (n0 : (s.toList == [43]) = false) (n1 : (s.toList == [42]) = false) (n2 : (s.toList == [60, 60]) = false) (n3 : (s.toList == [45]) = false) (n4 : (s.toList == [47]) = false) (n5 : (s.toList == [37]) = true) (hp : ¬ a.1 = a.2) (w : World) :
    Calls Try.prog 24 #[.string s, .agg #[.int .u64 a.1, .int .u64 a.2], .agg #[.int .u64 b.1, .int .u64 b.2]] w fun e w' => e = resE (resB s.toList a b) ∧ Below w.heap.size w w' := by
  have HE : resB s.toList a b = ((0, min a.2 (predV b.2)), (modR a.1 b.2).2) := by
    unfold resB; rw [if_neg (by omega)]; rw [if_neg (by simp only [n0, n1, n2]; decide), if_neg (by rw [n3]; decide), if_neg (by rw [n4]; decide), if_pos n5]
  rw [HE]
  clear HE
  have hw0 := fun w' => Op_any s a.1 b.1 ha.1 hb.1 w'
  have hc1 := fun w' => Mod_any a.1 b.2 ha.1 hb.2 w'
  have hpv : IntKind.u64.wrap (b.2 - 1) = predV b.2 := by rw [IntKind.wrap_u64]; unfold predV; have := hb.2.1; have := hb.2.2; split <;> omega
  generalize predV b.2 = pv at *
  obtain ⟨a0, a1⟩ := a
  obtain ⟨b0, b1⟩ := b
  simp only at *
  generalize opR s.toList a0 b0 = r at *
  obtain ⟨r1, r2⟩ := r
  have HO : Hid (∀ w', Calls Try.prog 22 #[.string s, .int .u64 a0, .int .u64 b0] w' fun e w'' => e = .returned (.tuple #[.int .u64 r1, .int .i64 r2]) ∧ w' = w'') := Lib.hid hw0
  clear hw0
  generalize modR a0 b1 = p1 at *
  obtain ⟨p1a, p1b⟩ := p1
  have HC1 : Hid (∀ w', Calls Try.prog 39 #[.int .u64 a0, .int .u64 b1] w' fun e w'' => e = .returned (.tuple #[.int .u64 p1a, .int .i64 p1b]) ∧ w' = w'') := Lib.hid hc1
  clear hc1
  have T0 := Lib.hid (Tri.new w a0 a1 b0 b1)
  have B0 := Lib.hid (three_below w (.cells #[.int .u64 a0, .int .u64 a1] 25) (.cells #[.int .u64 b0, .int .u64 b1] 25) (.cells #[.int .u64 0, .int .u64 0] 25))
  obtain ⟨c0, c1, c2, c3, c4, c5, f0, f1⟩ := T0.out.cells
  go_enter Try.func24, Try.ntmps24
  go_upto_region 1 with fail
  generalize ((w.alloc (.cells #[.int .u64 a0, .int .u64 a1] 25)).alloc (.cells #[.int .u64 b0, .int .u64 b1] 25)).alloc (.cells #[.int .u64 0, .int .u64 0] 25) = W at *
  have hlt := T0.out.lt
  go_wp2_with (first | (go_at_call 22; refine (HO.out _).mono ?_; rintro e w' ⟨rfl, rfl⟩) | (go_at_call 43; refine (point_any _ _ _).mono ?_; rintro e w' ⟨rfl, hb1⟩; replace T0 := Lib.hid (T0.out.below hb1 T0.out.lt); replace B0 := Lib.hid (chain2 B0.out hb1); clear hb1; obtain ⟨c0, c1, c2, c3, c4, c5, f0, f1⟩ := T0.out.cells) | (go_at_call 15; refine (Point_any _ _).mono ?_; rintro e w' ⟨rfl, hb1⟩; replace T0 := Lib.hid (T0.out.below hb1 T0.out.lt); replace B0 := Lib.hid (chain2 B0.out hb1); clear hb1; obtain ⟨c0, c1, c2, c3, c4, c5, f0, f1⟩ := T0.out.cells) | (go_at_call 39; refine (HC1.out _).mono ?_; rintro e w' ⟨rfl, rfl⟩))
  have q := T0.out.set (.int .u64 0) (.int .u64 (min a1 pv))
  exact bodyPost_ret (v := .tuple #[.agg #[.int .u64 0, .int .u64 (min a1 pv)], .int .i64 p1b]) (by simp [results, Try.results24, go_sem, q.1, q.2]) rfl ⟨rfl, (B0.out.setCell (p := ⟨w.heap.size + 1 + 1, 0, none⟩) (by show w.heap.size ≤ w.heap.size + 1 + 1; omega) _).setCell (p := ⟨w.heap.size + 1 + 1, 1, none⟩) (by show w.heap.size ≤ w.heap.size + 1 + 1; omega) _⟩
set_option maxRecDepth 100000 in
set_option maxHeartbeats 2000000 in
theorem results_modB (s : ByteArray) (a b : Int × Int) (ha : WR a) (hb : WR b) (n0 : (s.toList == [43]) = false) (n1 : (s.toList == [42]) = false) (n2 : (s.toList == [60, 60]) = false) (n3 : (s.toList == [45]) = false) (n4 : (s.toList == [47]) = false) (n5 : (s.toList == [37]) = true) (hp : a.1 = a.2) (hq : ¬ b.1 = b.2) (w : World) :
    Calls Try.prog 24 #[.string s, .agg #[.int .u64 a.1, .int .u64 a.2], .agg #[.int .u64 b.1, .int .u64 b.2]] w fun e w' => e = resE (resB s.toList a b) ∧ Below w.heap.size w w' := by
  have HE : resB s.toList a b = ((0, min a.2 (predV b.2)), (modR a.1 b.2).2) := by
    unfold resB; rw [if_neg (by omega)]; rw [if_neg (by simp only [n0, n1, n2]; decide), if_neg (by rw [n3]; decide), if_neg (by rw [n4]; decide), if_pos n5]
  rw [HE]
  clear HE
  have hw0 := fun w' => Op_any s a.1 b.1 ha.1 hb.1 w'
  have hc1 := fun w' => Mod_any a.1 b.2 ha.1 hb.2 w'
  have hpv : IntKind.u64.wrap (b.2 - 1) = predV b.2 := by rw [IntKind.wrap_u64]; unfold predV; have := hb.2.1; have := hb.2.2; split <;> omega
  generalize predV b.2 = pv at *
  obtain ⟨a0, a1⟩ := a
  obtain ⟨b0, b1⟩ := b
  simp only at *
  subst hp
  generalize opR s.toList a0 b0 = r at *
  obtain ⟨r1, r2⟩ := r
  have HO : Hid (∀ w', Calls Try.prog 22 #[.string s, .int .u64 a0, .int .u64 b0] w' fun e w'' => e = .returned (.tuple #[.int .u64 r1, .int .i64 r2]) ∧ w' = w'') := Lib.hid hw0
  clear hw0
  generalize modR a0 b1 = p1 at *
  obtain ⟨p1a, p1b⟩ := p1
  have HC1 : Hid (∀ w', Calls Try.prog 39 #[.int .u64 a0, .int .u64 b1] w' fun e w'' => e = .returned (.tuple #[.int .u64 p1a, .int .i64 p1b]) ∧ w' = w'') := Lib.hid hc1
  clear hc1
  have T0 := Lib.hid (Tri.new w a0 a0 b0 b1)
  have B0 := Lib.hid (three_below w (.cells #[.int .u64 a0, .int .u64 a0] 25) (.cells #[.int .u64 b0, .int .u64 b1] 25) (.cells #[.int .u64 0, .int .u64 0] 25))
  obtain ⟨c0, c1, c2, c3, c4, c5, f0, f1⟩ := T0.out.cells
  go_enter Try.func24, Try.ntmps24
  go_upto_region 1 with fail
  generalize ((w.alloc (.cells #[.int .u64 a0, .int .u64 a0] 25)).alloc (.cells #[.int .u64 b0, .int .u64 b1] 25)).alloc (.cells #[.int .u64 0, .int .u64 0] 25) = W at *
  have hlt := T0.out.lt
  go_wp2_with (first | (go_at_call 22; refine (HO.out _).mono ?_; rintro e w' ⟨rfl, rfl⟩) | (go_at_call 43; refine (point_any _ _ _).mono ?_; rintro e w' ⟨rfl, hb1⟩; replace T0 := Lib.hid (T0.out.below hb1 T0.out.lt); replace B0 := Lib.hid (chain2 B0.out hb1); clear hb1; obtain ⟨c0, c1, c2, c3, c4, c5, f0, f1⟩ := T0.out.cells) | (go_at_call 15; refine (Point_any _ _).mono ?_; rintro e w' ⟨rfl, hb1⟩; replace T0 := Lib.hid (T0.out.below hb1 T0.out.lt); replace B0 := Lib.hid (chain2 B0.out hb1); clear hb1; obtain ⟨c0, c1, c2, c3, c4, c5, f0, f1⟩ := T0.out.cells) | (go_at_call 39; refine (HC1.out _).mono ?_; rintro e w' ⟨rfl, rfl⟩))
  have q := T0.out.set (.int .u64 0) (.int .u64 (min a0 pv))
  exact bodyPost_ret (v := .tuple #[.agg #[.int .u64 0, .int .u64 (min a0 pv)], .int .i64 p1b]) (by simp [results, Try.results24, go_sem, q.1, q.2]) rfl ⟨rfl, (B0.out.setCell (p := ⟨w.heap.size + 1 + 1, 0, none⟩) (by show w.heap.size ≤ w.heap.size + 1 + 1; omega) _).setCell (p := ⟨w.heap.size + 1 + 1, 1, none⟩) (by show w.heap.size ≤ w.heap.size + 1 + 1; omega) _⟩
set_option maxRecDepth 100000 in
set_option maxHeartbeats 2000000 in
theorem results_shrA (s : ByteArray) (a b : Int × Int) (ha : WR a) (hb : WR b) (n0 : (s.toList == [43]) = false) (n1 : (s.toList == [42]) = false) (n2 : (s.toList == [60, 60]) = false) (n3 : (s.toList == [45]) = false) (n4 : (s.toList == [47]) = false) (n5 : (s.toList == [37]) = false) (n6 : (s.toList == [62, 62]) = true) (hp : ¬ a.1 = a.2) (w : World) :
    Calls Try.prog 24 #[.string s, .agg #[.int .u64 a.1, .int .u64 a.2], .agg #[.int .u64 b.1, .int .u64 b.2]] w fun e w' => e = resE (resB s.toList a b) ∧ Below w.heap.size w w' := by
  have HE : resB s.toList a b = ((a.1 / 2 ^ (min b.2 63).toNat, (shrR a.2 b.1).1), (shrR a.2 b.1).2) := by
    unfold resB; rw [if_neg (by omega)]; rw [if_neg (by simp only [n0, n1, n2]; decide), if_neg (by rw [n3]; decide), if_neg (by rw [n4]; decide), if_neg (by rw [n5]; decide), if_pos n6]
  rw [HE]
  clear HE
  have hw0 := fun w' => Op_any s a.1 b.1 ha.1 hb.1 w'
  have hc1 := fun w' => Shr_any a.2 b.1 ha.2 hb.1 w'
  have hs1 : ¬ 64 ≤ min b.2 63 := by omega
  have hs2 : 0 ≤ min b.2 63 := by have := hb.2.1; omega
  obtain ⟨a0, a1⟩ := a
  obtain ⟨b0, b1⟩ := b
  simp only at *
  generalize opR s.toList a0 b0 = r at *
  obtain ⟨r1, r2⟩ := r
  have HO : Hid (∀ w', Calls Try.prog 22 #[.string s, .int .u64 a0, .int .u64 b0] w' fun e w'' => e = .returned (.tuple #[.int .u64 r1, .int .i64 r2]) ∧ w' = w'') := Lib.hid hw0
  clear hw0
  generalize shrR a1 b0 = p1 at *
  obtain ⟨p1a, p1b⟩ := p1
  have HC1 : Hid (∀ w', Calls Try.prog 41 #[.int .u64 a1, .int .u64 b0] w' fun e w'' => e = .returned (.tuple #[.int .u64 p1a, .int .i64 p1b]) ∧ w' = w'') := Lib.hid hc1
  clear hc1
  have T0 := Lib.hid (Tri.new w a0 a1 b0 b1)
  have B0 := Lib.hid (three_below w (.cells #[.int .u64 a0, .int .u64 a1] 25) (.cells #[.int .u64 b0, .int .u64 b1] 25) (.cells #[.int .u64 0, .int .u64 0] 25))
  obtain ⟨c0, c1, c2, c3, c4, c5, f0, f1⟩ := T0.out.cells
  go_enter Try.func24, Try.ntmps24
  go_upto_region 1 with fail
  generalize ((w.alloc (.cells #[.int .u64 a0, .int .u64 a1] 25)).alloc (.cells #[.int .u64 b0, .int .u64 b1] 25)).alloc (.cells #[.int .u64 0, .int .u64 0] 25) = W at *
  have hlt := T0.out.lt
  go_wp2_with (first | (go_at_call 22; refine (HO.out _).mono ?_; rintro e w' ⟨rfl, rfl⟩) | (go_at_call 43; refine (point_any _ _ _).mono ?_; rintro e w' ⟨rfl, hb1⟩; replace T0 := Lib.hid (T0.out.below hb1 T0.out.lt); replace B0 := Lib.hid (chain2 B0.out hb1); clear hb1; obtain ⟨c0, c1, c2, c3, c4, c5, f0, f1⟩ := T0.out.cells) | (go_at_call 15; refine (Point_any _ _).mono ?_; rintro e w' ⟨rfl, hb1⟩; replace T0 := Lib.hid (T0.out.below hb1 T0.out.lt); replace B0 := Lib.hid (chain2 B0.out hb1); clear hb1; obtain ⟨c0, c1, c2, c3, c4, c5, f0, f1⟩ := T0.out.cells) | (go_at_call 41; refine (HC1.out _).mono ?_; rintro e w' ⟨rfl, rfl⟩))
  have q := T0.out.set (.int .u64 (a0 / 2 ^ (min b1 63).toNat)) (.int .u64 p1a)
  exact bodyPost_ret (v := .tuple #[.agg #[.int .u64 (a0 / 2 ^ (min b1 63).toNat), .int .u64 p1a], .int .i64 p1b]) (by simp [results, Try.results24, go_sem, q.1, q.2]) rfl ⟨rfl, (B0.out.setCell (p := ⟨w.heap.size + 1 + 1, 0, none⟩) (by show w.heap.size ≤ w.heap.size + 1 + 1; omega) _).setCell (p := ⟨w.heap.size + 1 + 1, 1, none⟩) (by show w.heap.size ≤ w.heap.size + 1 + 1; omega) _⟩
set_option maxRecDepth 100000 in
set_option maxHeartbeats 2000000 in
theorem results_shrB (s : ByteArray) (a b : Int × Int) (ha : WR a) (hb : WR b) (n0 : (s.toList == [43]) = false) (n1 : (s.toList == [42]) = false) (n2 : (s.toList == [60, 60]) = false) (n3 : (s.toList == [45]) = false) (n4 : (s.toList == [47]) = false) (n5 : (s.toList == [37]) = false) (n6 : (s.toList == [62, 62]) = true) (hp : a.1 = a.2) (hq : ¬ b.1 = b.2) (w : World) :
    Calls Try.prog 24 #[.string s, .agg #[.int .u64 a.1, .int .u64 a.2], .agg #[.int .u64 b.1, .int .u64 b.2]] w fun e w' => e = resE (resB s.toList a b) ∧ Below w.heap.size w w' := by
  have HE : resB s.toList a b = ((a.1 / 2 ^ (min b.2 63).toNat, (shrR a.2 b.1).1), (shrR a.2 b.1).2) := by
    unfold resB; rw [if_neg (by omega)]; rw [if_neg (by simp only [n0, n1, n2]; decide), if_neg (by rw [n3]; decide), if_neg (by rw [n4]; decide), if_neg (by rw [n5]; decide), if_pos n6]
  rw [HE]
  clear HE
  have hw0 := fun w' => Op_any s a.1 b.1 ha.1 hb.1 w'
  have hc1 := fun w' => Shr_any a.2 b.1 ha.2 hb.1 w'
  have hs1 : ¬ 64 ≤ min b.2 63 := by omega
  have hs2 : 0 ≤ min b.2 63 := by have := hb.2.1; omega
  obtain ⟨a0, a1⟩ := a
  obtain ⟨b0, b1⟩ := b
  simp only at *
  subst hp
  generalize opR s.toList a0 b0 = r at *
  obtain ⟨r1, r2⟩ := r
  have HO : Hid (∀ w', Calls Try.prog 22 #[.string s, .int .u64 a0, .int .u64 b0] w' fun e w'' => e = .returned (.tuple #[.int .u64 r1, .int .i64 r2]) ∧ w' = w'') := Lib.hid hw0
  clear hw0
  generalize shrR a0 b0 = p1 at *
  obtain ⟨p1a, p1b⟩ := p1
  have HC1 : Hid (∀ w', Calls Try.prog 41 #[.int .u64 a0, .int .u64 b0] w' fun e w'' => e = .returned (.tuple #[.int .u64 p1a, .int .i64 p1b]) ∧ w' = w'') := Lib.hid hc1
  clear hc1
  have T0 := Lib.hid (Tri.new w a0 a0 b0 b1)
  have B0 := Lib.hid (three_below w (.cells #[.int .u64 a0, .int .u64 a0] 25) (.cells #[.int .u64 b0, .int .u64 b1] 25) (.cells #[.int .u64 0, .int .u64 0] 25))
  obtain ⟨c0, c1, c2, c3, c4, c5, f0, f1⟩ := T0.out.cells
  go_enter Try.func24, Try.ntmps24
  go_upto_region 1 with fail
  generalize ((w.alloc (.cells #[.int .u64 a0, .int .u64 a0] 25)).alloc (.cells #[.int .u64 b0, .int .u64 b1] 25)).alloc (.cells #[.int .u64 0, .int .u64 0] 25) = W at *
  have hlt := T0.out.lt
  go_wp2_with (first | (go_at_call 22; refine (HO.out _).mono ?_; rintro e w' ⟨rfl, rfl⟩) | (go_at_call 43; refine (point_any _ _ _).mono ?_; rintro e w' ⟨rfl, hb1⟩; replace T0 := Lib.hid (T0.out.below hb1 T0.out.lt); replace B0 := Lib.hid (chain2 B0.out hb1); clear hb1; obtain ⟨c0, c1, c2, c3, c4, c5, f0, f1⟩ := T0.out.cells) | (go_at_call 15; refine (Point_any _ _).mono ?_; rintro e w' ⟨rfl, hb1⟩; replace T0 := Lib.hid (T0.out.below hb1 T0.out.lt); replace B0 := Lib.hid (chain2 B0.out hb1); clear hb1; obtain ⟨c0, c1, c2, c3, c4, c5, f0, f1⟩ := T0.out.cells) | (go_at_call 41; refine (HC1.out _).mono ?_; rintro e w' ⟨rfl, rfl⟩))
  have q := T0.out.set (.int .u64 (a0 / 2 ^ (min b1 63).toNat)) (.int .u64 p1a)
  exact bodyPost_ret (v := .tuple #[.agg #[.int .u64 (a0 / 2 ^ (min b1 63).toNat), .int .u64 p1a], .int .i64 p1b]) (by simp [results, Try.results24, go_sem, q.1, q.2]) rfl ⟨rfl, (B0.out.setCell (p := ⟨w.heap.size + 1 + 1, 0, none⟩) (by show w.heap.size ≤ w.heap.size + 1 + 1; omega) _).setCell (p := ⟨w.heap.size + 1 + 1, 1, none⟩) (by show w.heap.size ≤ w.heap.size + 1 + 1; omega) _⟩
set_option maxRecDepth 100000 in
set_option maxHeartbeats 2000000 in
theorem results_andA (s : ByteArray) (a b : Int × Int) (ha : WR a) (hb : WR b) (n0 : (s.toList == [43]) = false) (n1 : (s.toList == [42]) = false) (n2 : (s.toList == [60, 60]) = false) (n3 : (s.toList == [45]) = false) (n4 : (s.toList == [47]) = false) (n5 : (s.toList == [37]) = false) (n6 : (s.toList == [62, 62]) = false) (n7 : (s.toList == [38]) = true) (hp : ¬ a.1 = a.2) (w : World) :
    Calls Try.prog 24 #[.string s, .agg #[.int .u64 a.1, .int .u64 a.2], .agg #[.int .u64 b.1, .int .u64 b.2]] w fun e w' => e = resE (resB s.toList a b) ∧ Below w.heap.size w w' := by
  have HE : resB s.toList a b = ((0, min a.2 b.2), 0) := by
    unfold resB; rw [if_neg (by omega)]; rw [if_neg (by simp only [n0, n1, n2]; decide), if_neg (by rw [n3]; decide), if_neg (by rw [n4]; decide), if_neg (by rw [n5]; decide), if_neg (by rw [n6]; decide), if_pos n7]
  rw [HE]
  clear HE
  have hw0 := fun w' => Op_any s a.1 b.1 ha.1 hb.1 w'
  obtain ⟨a0, a1⟩ := a
  obtain ⟨b0, b1⟩ := b
  simp only at *
  generalize opR s.toList a0 b0 = r at *
  obtain ⟨r1, r2⟩ := r
  have HO : Hid (∀ w', Calls Try.prog 22 #[.string s, .int .u64 a0, .int .u64 b0] w' fun e w'' => e = .returned (.tuple #[.int .u64 r1, .int .i64 r2]) ∧ w' = w'') := Lib.hid hw0
  clear hw0
  have T0 := Lib.hid (Tri.new w a0 a1 b0 b1)
  have B0 := Lib.hid (three_below w (.cells #[.int .u64 a0, .int .u64 a1] 25) (.cells #[.int .u64 b0, .int .u64 b1] 25) (.cells #[.int .u64 0, .int .u64 0] 25))
  obtain ⟨c0, c1, c2, c3, c4, c5, f0, f1⟩ := T0.out.cells
  go_enter Try.func24, Try.ntmps24
  go_upto_region 1 with fail
  generalize ((w.alloc (.cells #[.int .u64 a0, .int .u64 a1] 25)).alloc (.cells #[.int .u64 b0, .int .u64 b1] 25)).alloc (.cells #[.int .u64 0, .int .u64 0] 25) = W at *
  have hlt := T0.out.lt
  go_wp2_with (first | (go_at_call 22; refine (HO.out _).mono ?_; rintro e w' ⟨rfl, rfl⟩) | (go_at_call 43; refine (point_any _ _ _).mono ?_; rintro e w' ⟨rfl, hb1⟩; replace T0 := Lib.hid (T0.out.below hb1 T0.out.lt); replace B0 := Lib.hid (chain2 B0.out hb1); clear hb1; obtain ⟨c0, c1, c2, c3, c4, c5, f0, f1⟩ := T0.out.cells) | (go_at_call 15; refine (Point_any _ _).mono ?_; rintro e w' ⟨rfl, hb1⟩; replace T0 := Lib.hid (T0.out.below hb1 T0.out.lt); replace B0 := Lib.hid (chain2 B0.out hb1); clear hb1; obtain ⟨c0, c1, c2, c3, c4, c5, f0, f1⟩ := T0.out.cells))
  have q := T0.out.set (.int .u64 0) (.int .u64 (min a1 b1))
  exact bodyPost_ret (v := .tuple #[.agg #[.int .u64 0, .int .u64 (min a1 b1)], .int .i64 0]) (by simp [results, Try.results24, go_sem, q.1, q.2]) rfl ⟨rfl, (B0.out.setCell (p := ⟨w.heap.size + 1 + 1, 0, none⟩) (by show w.heap.size ≤ w.heap.size + 1 + 1; omega) _).setCell (p := ⟨w.heap.size + 1 + 1, 1, none⟩) (by show w.heap.size ≤ w.heap.size + 1 + 1; omega) _⟩
set_option maxRecDepth 100000 in
set_option maxHeartbeats 2000000 in
theorem results_andB (s : ByteArray) (a b : Int × Int) (ha : WR a) (hb : WR b) (n0 : (s.toList == [43]) = false) (n1 : (s.toList == [42]) = false) (n2 : (s.toList == [60, 60]) = false) (n3 : (s.toList == [45]) = false) (n4 : (s.toList == [47]) = false) (n5 : (s.toList == [37]) = false) (n6 : (s.toList == [62, 62]) = false) (n7 : (s.toList == [38]) = true) (hp : a.1 = a.2) (hq : ¬ b.1 = b.2) (w : World) :
    Calls Try.prog 24 #[.string s, .agg #[.int .u64 a.1, .int .u64 a.2], .agg #[.int .u64 b.1, .int .u64 b.2]] w fun e w' => e = resE (resB s.toList a b) ∧ Below w.heap.size w w' := by
  have HE : resB s.toList a b = ((0, min a.2 b.2), 0) := by
    unfold resB; rw [if_neg (by omega)]; rw [if_neg (by simp only [n0, n1, n2]; decide), if_neg (by rw [n3]; decide), if_neg (by rw [n4]; decide), if_neg (by rw [n5]; decide), if_neg (by rw [n6]; decide), if_pos n7]
  rw [HE]
  clear HE
  have hw0 := fun w' => Op_any s a.1 b.1 ha.1 hb.1 w'
  obtain ⟨a0, a1⟩ := a
  obtain ⟨b0, b1⟩ := b
  simp only at *
  subst hp
  generalize opR s.toList a0 b0 = r at *
  obtain ⟨r1, r2⟩ := r
  have HO : Hid (∀ w', Calls Try.prog 22 #[.string s, .int .u64 a0, .int .u64 b0] w' fun e w'' => e = .returned (.tuple #[.int .u64 r1, .int .i64 r2]) ∧ w' = w'') := Lib.hid hw0
  clear hw0
  have T0 := Lib.hid (Tri.new w a0 a0 b0 b1)
  have B0 := Lib.hid (three_below w (.cells #[.int .u64 a0, .int .u64 a0] 25) (.cells #[.int .u64 b0, .int .u64 b1] 25) (.cells #[.int .u64 0, .int .u64 0] 25))
  obtain ⟨c0, c1, c2, c3, c4, c5, f0, f1⟩ := T0.out.cells
  go_enter Try.func24, Try.ntmps24
  go_upto_region 1 with fail
  generalize ((w.alloc (.cells #[.int .u64 a0, .int .u64 a0] 25)).alloc (.cells #[.int .u64 b0, .int .u64 b1] 25)).alloc (.cells #[.int .u64 0, .int .u64 0] 25) = W at *
  have hlt := T0.out.lt
  go_wp2_with (first | (go_at_call 22; refine (HO.out _).mono ?_; rintro e w' ⟨rfl, rfl⟩) | (go_at_call 43; refine (point_any _ _ _).mono ?_; rintro e w' ⟨rfl, hb1⟩; replace T0 := Lib.hid (T0.out.below hb1 T0.out.lt); replace B0 := Lib.hid (chain2 B0.out hb1); clear hb1; obtain ⟨c0, c1, c2, c3, c4, c5, f0, f1⟩ := T0.out.cells) | (go_at_call 15; refine (Point_any _ _).mono ?_; rintro e w' ⟨rfl, hb1⟩; replace T0 := Lib.hid (T0.out.below hb1 T0.out.lt); replace B0 := Lib.hid (chain2 B0.out hb1); clear hb1; obtain ⟨c0, c1, c2, c3, c4, c5, f0, f1⟩ := T0.out.cells))
  have q := T0.out.set (.int .u64 0) (.int .u64 (min a0 b1))
  exact bodyPost_ret (v := .tuple #[.agg #[.int .u64 0, .int .u64 (min a0 b1)], .int .i64 0]) (by simp [results, Try.results24, go_sem, q.1, q.2]) rfl ⟨rfl, (B0.out.setCell (p := ⟨w.heap.size + 1 + 1, 0, none⟩) (by show w.heap.size ≤ w.heap.size + 1 + 1; omega) _).setCell (p := ⟨w.heap.size + 1 + 1, 1, none⟩) (by show w.heap.size ≤ w.heap.size + 1 + 1; omega) _⟩
set_option maxRecDepth 100000 in
set_option maxHeartbeats 2000000 in
theorem results_orA (s : ByteArray) (a b : Int × Int) (ha : WR a) (hb : WR b) (n0 : (s.toList == [43]) = false) (n1 : (s.toList == [42]) = false) (n2 : (s.toList == [60, 60]) = false) (n3 : (s.toList == [45]) = false) (n4 : (s.toList == [47]) = false) (n5 : (s.toList == [37]) = false) (n6 : (s.toList == [62, 62]) = false) (n7 : (s.toList == [38]) = false) (n8 : (s.toList == [124]) = true) (hp : ¬ a.1 = a.2) (w : World) :
    Calls Try.prog 24 #[.string s, .agg #[.int .u64 a.1, .int .u64 a.2], .agg #[.int .u64 b.1, .int .u64 b.2]] w fun e w' => e = resE (resB s.toList a b) ∧ Below w.heap.size w w' := by
  have HE : resB s.toList a b = ((max a.1 b.1, maskV (lenV (max a.2 b.2))), 0) := by
    unfold resB; rw [if_neg (by omega)]; rw [if_neg (by simp only [n0, n1, n2]; decide), if_neg (by rw [n3]; decide), if_neg (by rw [n4]; decide), if_neg (by rw [n5]; decide), if_neg (by rw [n6]; decide), if_neg (by rw [n7]; decide), if_pos n8]
  rw [HE]
  clear HE
  have hw0 := fun w' => Op_any s a.1 b.1 ha.1 hb.1 w'
  have hl1 := fun w' => Len64_any (max a.2 b.2) ⟨by have := ha.2.1; omega, by have := ha.2.2; have := hb.2.2; omega⟩ w'
  have hl2 := (lenV_le (n := max a.2 b.2) ⟨by have := ha.2.1; omega, by have := ha.2.2; have := hb.2.2; omega⟩)
  have hm1 := fun w' => Mask_any (lenV (max a.2 b.2)) (by simp [Lit.wf, IntKind.min, IntKind.max, IntKind.signed, IntKind.bits]; omega) w'
  obtain ⟨a0, a1⟩ := a
  obtain ⟨b0, b1⟩ := b
  simp only at *
  generalize opR s.toList a0 b0 = r at *
  obtain ⟨r1, r2⟩ := r
  have HO : Hid (∀ w', Calls Try.prog 22 #[.string s, .int .u64 a0, .int .u64 b0] w' fun e w'' => e = .returned (.tuple #[.int .u64 r1, .int .i64 r2]) ∧ w' = w'') := Lib.hid hw0
  clear hw0
  generalize lenV (max a1 b1) = len at *
  generalize maskV len = mk at *
  have HL := Lib.hid fun w' => (hl1 w').mono (fun e w'' (h : _ ∧ w' = w'') => (⟨h.1, h.2.symm⟩ : e = .returned (.int .i64 (len : Int)) ∧ w'' = w'))
  have HM := Lib.hid fun w' => (hm1 w').mono (fun e w'' (h : _ ∧ w' = w'') => (⟨h.1, h.2.symm⟩ : e = .returned (.int .u64 mk) ∧ w'' = w'))
  clear hl1 hm1 hl2
  have T0 := Lib.hid (Tri.new w a0 a1 b0 b1)
  have B0 := Lib.hid (three_below w (.cells #[.int .u64 a0, .int .u64 a1] 25) (.cells #[.int .u64 b0, .int .u64 b1] 25) (.cells #[.int .u64 0, .int .u64 0] 25))
  obtain ⟨c0, c1, c2, c3, c4, c5, f0, f1⟩ := T0.out.cells
  go_enter Try.func24, Try.ntmps24
  go_upto_region 1 with fail
  generalize ((w.alloc (.cells #[.int .u64 a0, .int .u64 a1] 25)).alloc (.cells #[.int .u64 b0, .int .u64 b1] 25)).alloc (.cells #[.int .u64 0, .int .u64 0] 25) = W at *
  have hlt := T0.out.lt
  go_wp2_with (first | (go_at_call 22; refine (HO.out _).mono ?_; rintro e w' ⟨rfl, rfl⟩) | (go_at_call 43; refine (point_any _ _ _).mono ?_; rintro e w' ⟨rfl, hb1⟩; replace T0 := Lib.hid (T0.out.below hb1 T0.out.lt); replace B0 := Lib.hid (chain2 B0.out hb1); clear hb1; obtain ⟨c0, c1, c2, c3, c4, c5, f0, f1⟩ := T0.out.cells) | (go_at_call 15; refine (Point_any _ _).mono ?_; rintro e w' ⟨rfl, hb1⟩; replace T0 := Lib.hid (T0.out.below hb1 T0.out.lt); replace B0 := Lib.hid (chain2 B0.out hb1); clear hb1; obtain ⟨c0, c1, c2, c3, c4, c5, f0, f1⟩ := T0.out.cells))
  refine wp_region_still_tail 13 (by kernel_rfl) (by kernel_rfl) ?_
  simp only [List.take_succ_cons, List.take_zero, List.drop_succ_cons, List.drop_zero]
  repeat still_step
  still_call (HL.out _)
  repeat still_step
  still_call (HM.out _)
  repeat still_step
  refine wpStill_nil ?_
  change wpList _ _ _ _ _ (World.drew w')
  replace T0 : Hid (Tri (World.drew w') w.heap.size a0 a1 b0 b1 0 0) := Lib.hid ⟨T0.out.d0, T0.out.d1, T0.out.d2⟩
  replace B0 : Hid (Below w.heap.size w (World.drew w')) := Lib.hid ⟨B0.out.os, B0.out.tape, B0.out.output, B0.out.size, B0.out.block⟩
  generalize World.drew w' = W3 at *
  obtain ⟨c0, c1, c2, c3, c4, c5, f0, f1⟩ := T0.out.cells
  go_wp2_with fail
  have q := T0.out.set (.int .u64 (max a0 b0)) (.int .u64 mk)
  exact bodyPost_ret (v := .tuple #[.agg #[.int .u64 (max a0 b0), .int .u64 mk], .int .i64 0]) (by simp [results, Try.results24, go_sem, q.1, q.2]) rfl ⟨rfl, (B0.out.setCell (p := ⟨w.heap.size + 1 + 1, 0, none⟩) (by show w.heap.size ≤ w.heap.size + 1 + 1; omega) _).setCell (p := ⟨w.heap.size + 1 + 1, 1, none⟩) (by show w.heap.size ≤ w.heap.size + 1 + 1; omega) _⟩
set_option maxRecDepth 100000 in
set_option maxHeartbeats 2000000 in
theorem results_orB (s : ByteArray) (a b : Int × Int) (ha : WR a) (hb : WR b) (n0 : (s.toList == [43]) = false) (n1 : (s.toList == [42]) = false) (n2 : (s.toList == [60, 60]) = false) (n3 : (s.toList == [45]) = false) (n4 : (s.toList == [47]) = false) (n5 : (s.toList == [37]) = false) (n6 : (s.toList == [62, 62]) = false) (n7 : (s.toList == [38]) = false) (n8 : (s.toList == [124]) = true) (hp : a.1 = a.2) (hq : ¬ b.1 = b.2) (w : World) :
    Calls Try.prog 24 #[.string s, .agg #[.int .u64 a.1, .int .u64 a.2], .agg #[.int .u64 b.1, .int .u64 b.2]] w fun e w' => e = resE (resB s.toList a b) ∧ Below w.heap.size w w' := by
  have HE : resB s.toList a b = ((max a.1 b.1, maskV (lenV (max a.2 b.2))), 0) := by
    unfold resB; rw [if_neg (by omega)]; rw [if_neg (by simp only [n0, n1, n2]; decide), if_neg (by rw [n3]; decide), if_neg (by rw [n4]; decide), if_neg (by rw [n5]; decide), if_neg (by rw [n6]; decide), if_neg (by rw [n7]; decide), if_pos n8]
  rw [HE]
  clear HE
  have hw0 := fun w' => Op_any s a.1 b.1 ha.1 hb.1 w'
  have hl1 := fun w' => Len64_any (max a.2 b.2) ⟨by have := ha.2.1; omega, by have := ha.2.2; have := hb.2.2; omega⟩ w'
  have hl2 := (lenV_le (n := max a.2 b.2) ⟨by have := ha.2.1; omega, by have := ha.2.2; have := hb.2.2; omega⟩)
  have hm1 := fun w' => Mask_any (lenV (max a.2 b.2)) (by simp [Lit.wf, IntKind.min, IntKind.max, IntKind.signed, IntKind.bits]; omega) w'
  obtain ⟨a0, a1⟩ := a
  obtain ⟨b0, b1⟩ := b
  simp only at *
  subst hp
  generalize opR s.toList a0 b0 = r at *
  obtain ⟨r1, r2⟩ := r
  have HO : Hid (∀ w', Calls Try.prog 22 #[.string s, .int .u64 a0, .int .u64 b0] w' fun e w'' => e = .returned (.tuple #[.int .u64 r1, .int .i64 r2]) ∧ w' = w'') := Lib.hid hw0
  clear hw0
  generalize lenV (max a0 b1) = len at *
  generalize maskV len = mk at *
  have HL := Lib.hid fun w' => (hl1 w').mono (fun e w'' (h : _ ∧ w' = w'') => (⟨h.1, h.2.symm⟩ : e = .returned (.int .i64 (len : Int)) ∧ w'' = w'))
  have HM := Lib.hid fun w' => (hm1 w').mono (fun e w'' (h : _ ∧ w' = w'') => (⟨h.1, h.2.symm⟩ : e = .returned (.int .u64 mk) ∧ w'' = w'))
  clear hl1 hm1 hl2
  have T0 := Lib.hid (Tri.new w a0 a0 b0 b1)
  have B0 := Lib.hid (three_below w (.cells #[.int .u64 a0, .int .u64 a0] 25) (.cells #[.int .u64 b0, .int .u64 b1] 25) (.cells #[.int .u64 0, .int .u64 0] 25))
  obtain ⟨c0, c1, c2, c3, c4, c5, f0, f1⟩ := T0.out.cells
  go_enter Try.func24, Try.ntmps24
  go_upto_region 1 with fail
  generalize ((w.alloc (.cells #[.int .u64 a0, .int .u64 a0] 25)).alloc (.cells #[.int .u64 b0, .int .u64 b1] 25)).alloc (.cells #[.int .u64 0, .int .u64 0] 25) = W at *
  have hlt := T0.out.lt
  go_wp2_with (first | (go_at_call 22; refine (HO.out _).mono ?_; rintro e w' ⟨rfl, rfl⟩) | (go_at_call 43; refine (point_any _ _ _).mono ?_; rintro e w' ⟨rfl, hb1⟩; replace T0 := Lib.hid (T0.out.below hb1 T0.out.lt); replace B0 := Lib.hid (chain2 B0.out hb1); clear hb1; obtain ⟨c0, c1, c2, c3, c4, c5, f0, f1⟩ := T0.out.cells) | (go_at_call 15; refine (Point_any _ _).mono ?_; rintro e w' ⟨rfl, hb1⟩; replace T0 := Lib.hid (T0.out.below hb1 T0.out.lt); replace B0 := Lib.hid (chain2 B0.out hb1); clear hb1; obtain ⟨c0, c1, c2, c3, c4, c5, f0, f1⟩ := T0.out.cells))
  refine wp_region_still_tail 13 (by kernel_rfl) (by kernel_rfl) ?_
  simp only [List.take_succ_cons, List.take_zero, List.drop_succ_cons, List.drop_zero]
  repeat still_step
  still_call (HL.out _)
  repeat still_step
  still_call (HM.out _)
  repeat still_step
  refine wpStill_nil ?_
  change wpList _ _ _ _ _ (World.drew w')
  replace T0 : Hid (Tri (World.drew w') w.heap.size a0 a0 b0 b1 0 0) := Lib.hid ⟨T0.out.d0, T0.out.d1, T0.out.d2⟩
  replace B0 : Hid (Below w.heap.size w (World.drew w')) := Lib.hid ⟨B0.out.os, B0.out.tape, B0.out.output, B0.out.size, B0.out.block⟩
  generalize World.drew w' = W3 at *
  obtain ⟨c0, c1, c2, c3, c4, c5, f0, f1⟩ := T0.out.cells
  go_wp2_with fail
  have q := T0.out.set (.int .u64 (max a0 b0)) (.int .u64 mk)
  exact bodyPost_ret (v := .tuple #[.agg #[.int .u64 (max a0 b0), .int .u64 mk], .int .i64 0]) (by simp [results, Try.results24, go_sem, q.1, q.2]) rfl ⟨rfl, (B0.out.setCell (p := ⟨w.heap.size + 1 + 1, 0, none⟩) (by show w.heap.size ≤ w.heap.size + 1 + 1; omega) _).setCell (p := ⟨w.heap.size + 1 + 1, 1, none⟩) (by show w.heap.size ≤ w.heap.size + 1 + 1; omega) _⟩
set_option maxRecDepth 100000 in
set_option maxHeartbeats 2000000 in
theorem results_elseA (s : ByteArray) (a b : Int × Int) (ha : WR a) (hb : WR b) (n0 : (s.toList == [43]) = false) (n1 : (s.toList == [42]) = false) (n2 : (s.toList == [60, 60]) = false) (n3 : (s.toList == [45]) = false) (n4 : (s.toList == [47]) = false) (n5 : (s.toList == [37]) = false) (n6 : (s.toList == [62, 62]) = false) (n7 : (s.toList == [38]) = false) (n8 : (s.toList == [124]) = false) (hp : ¬ a.1 = a.2) (w : World) :
    Calls Try.prog 24 #[.string s, .agg #[.int .u64 a.1, .int .u64 a.2], .agg #[.int .u64 b.1, .int .u64 b.2]] w fun e w' => e = resE (resB s.toList a b) ∧ Below w.heap.size w w' := by
  have HE : resB s.toList a b = ((0, 1), (opR s.toList a.1 b.1).2) := by
    unfold resB; rw [if_neg (by omega)]; rw [if_neg (by simp only [n0, n1, n2]; decide), if_neg (by rw [n3]; decide), if_neg (by rw [n4]; decide), if_neg (by rw [n5]; decide), if_neg (by rw [n6]; decide), if_neg (by rw [n7]; decide), if_neg (by rw [n8]; decide)]
  rw [HE]
  clear HE
  have hw0 := fun w' => Op_any s a.1 b.1 ha.1 hb.1 w'
  obtain ⟨a0, a1⟩ := a
  obtain ⟨b0, b1⟩ := b
  simp only at *
  generalize opR s.toList a0 b0 = r at *
  obtain ⟨r1, r2⟩ := r
  have HO : Hid (∀ w', Calls Try.prog 22 #[.string s, .int .u64 a0, .int .u64 b0] w' fun e w'' => e = .returned (.tuple #[.int .u64 r1, .int .i64 r2]) ∧ w' = w'') := Lib.hid hw0
  clear hw0
  have T0 := Lib.hid (Tri.new w a0 a1 b0 b1)
  have B0 := Lib.hid (three_below w (.cells #[.int .u64 a0, .int .u64 a1] 25) (.cells #[.int .u64 b0, .int .u64 b1] 25) (.cells #[.int .u64 0, .int .u64 0] 25))
  obtain ⟨c0, c1, c2, c3, c4, c5, f0, f1⟩ := T0.out.cells
  go_enter Try.func24, Try.ntmps24
  go_upto_region 1 with fail
  generalize ((w.alloc (.cells #[.int .u64 a0, .int .u64 a1] 25)).alloc (.cells #[.int .u64 b0, .int .u64 b1] 25)).alloc (.cells #[.int .u64 0, .int .u64 0] 25) = W at *
  have hlt := T0.out.lt
  go_wp2_with (first | (go_at_call 22; refine (HO.out _).mono ?_; rintro e w' ⟨rfl, rfl⟩) | (go_at_call 43; refine (point_any _ _ _).mono ?_; rintro e w' ⟨rfl, hb1⟩; replace T0 := Lib.hid (T0.out.below hb1 T0.out.lt); replace B0 := Lib.hid (chain2 B0.out hb1); clear hb1; obtain ⟨c0, c1, c2, c3, c4, c5, f0, f1⟩ := T0.out.cells) | (go_at_call 15; refine (Point_any _ _).mono ?_; rintro e w' ⟨rfl, hb1⟩; replace T0 := Lib.hid (T0.out.below hb1 T0.out.lt); replace B0 := Lib.hid (chain2 B0.out hb1); clear hb1; obtain ⟨c0, c1, c2, c3, c4, c5, f0, f1⟩ := T0.out.cells))
  have q := T0.out.set (.int .u64 0) (.int .u64 1)
  exact bodyPost_ret (v := .tuple #[.agg #[.int .u64 0, .int .u64 1], .int .i64 r2]) (by simp [results, Try.results24, go_sem, q.1, q.2]) rfl ⟨rfl, (B0.out.setCell (p := ⟨w.heap.size + 1 + 1, 0, none⟩) (by show w.heap.size ≤ w.heap.size + 1 + 1; omega) _).setCell (p := ⟨w.heap.size + 1 + 1, 1, none⟩) (by show w.heap.size ≤ w.heap.size + 1 + 1; omega) _⟩
set_option maxRecDepth 100000 in
set_option maxHeartbeats 2000000 in
theorem results_elseB (s : ByteArray) (a b : Int × Int) (ha : WR a) (hb : WR b) (n0 : (s.toList == [43]) = false) (n1 : (s.toList == [42]) = false) (n2 : (s.toList == [60, 60]) = false) (n3 : (s.toList == [45]) = false) (n4 : (s.toList == [47]) = false) (n5 : (s.toList == [37]) = false) (n6 : (s.toList == [62, 62]) = false) (n7 : (s.toList == [38]) = false) (n8 : (s.toList == [124]) = false) (hp : a.1 = a.2) (hq : ¬ b.1 = b.2) (w : World) :
    Calls Try.prog 24 #[.string s, .agg #[.int .u64 a.1, .int .u64 a.2], .agg #[.int .u64 b.1, .int .u64 b.2]] w fun e w' => e = resE (resB s.toList a b) ∧ Below w.heap.size w w' := by
  have HE : resB s.toList a b = ((0, 1), (opR s.toList a.1 b.1).2) := by
    unfold resB; rw [if_neg (by omega)]; rw [if_neg (by simp only [n0, n1, n2]; decide), if_neg (by rw [n3]; decide), if_neg (by rw [n4]; decide), if_neg (by rw [n5]; decide), if_neg (by rw [n6]; decide), if_neg (by rw [n7]; decide), if_neg (by rw [n8]; decide)]
  rw [HE]
  clear HE
  have hw0 := fun w' => Op_any s a.1 b.1 ha.1 hb.1 w'
  obtain ⟨a0, a1⟩ := a
  obtain ⟨b0, b1⟩ := b
  simp only at *
  subst hp
  generalize opR s.toList a0 b0 = r at *
  obtain ⟨r1, r2⟩ := r
  have HO : Hid (∀ w', Calls Try.prog 22 #[.string s, .int .u64 a0, .int .u64 b0] w' fun e w'' => e = .returned (.tuple #[.int .u64 r1, .int .i64 r2]) ∧ w' = w'') := Lib.hid hw0
  clear hw0
  have T0 := Lib.hid (Tri.new w a0 a0 b0 b1)
  have B0 := Lib.hid (three_below w (.cells #[.int .u64 a0, .int .u64 a0] 25) (.cells #[.int .u64 b0, .int .u64 b1] 25) (.cells #[.int .u64 0, .int .u64 0] 25))
  obtain ⟨c0, c1, c2, c3, c4, c5, f0, f1⟩ := T0.out.cells
  go_enter Try.func24, Try.ntmps24
  go_upto_region 1 with fail
  generalize ((w.alloc (.cells #[.int .u64 a0, .int .u64 a0] 25)).alloc (.cells #[.int .u64 b0, .int .u64 b1] 25)).alloc (.cells #[.int .u64 0, .int .u64 0] 25) = W at *
  have hlt := T0.out.lt
  go_wp2_with (first | (go_at_call 22; refine (HO.out _).mono ?_; rintro e w' ⟨rfl, rfl⟩) | (go_at_call 43; refine (point_any _ _ _).mono ?_; rintro e w' ⟨rfl, hb1⟩; replace T0 := Lib.hid (T0.out.below hb1 T0.out.lt); replace B0 := Lib.hid (chain2 B0.out hb1); clear hb1; obtain ⟨c0, c1, c2, c3, c4, c5, f0, f1⟩ := T0.out.cells) | (go_at_call 15; refine (Point_any _ _).mono ?_; rintro e w' ⟨rfl, hb1⟩; replace T0 := Lib.hid (T0.out.below hb1 T0.out.lt); replace B0 := Lib.hid (chain2 B0.out hb1); clear hb1; obtain ⟨c0, c1, c2, c3, c4, c5, f0, f1⟩ := T0.out.cells))
  have q := T0.out.set (.int .u64 0) (.int .u64 1)
  exact bodyPost_ret (v := .tuple #[.agg #[.int .u64 0, .int .u64 1], .int .i64 r2]) (by simp [results, Try.results24, go_sem, q.1, q.2]) rfl ⟨rfl, (B0.out.setCell (p := ⟨w.heap.size + 1 + 1, 0, none⟩) (by show w.heap.size ≤ w.heap.size + 1 + 1; omega) _).setCell (p := ⟨w.heap.size + 1 + 1, 1, none⟩) (by show w.heap.size ≤ w.heap.size + 1 + 1; omega) _⟩
theorem results_any (s : ByteArray) (a b : Int × Int) (ha : WR a) (hb : WR b) (w : World) :
    Calls Try.prog 24 #[.string s, .agg #[.int .u64 a.1, .int .u64 a.2], .agg #[.int .u64 b.1, .int .u64 b.2]] w fun e w' => e = resE (resB s.toList a b) ∧ Below w.heap.size w w' := by
  by_cases hp : a.1 = a.2
  · by_cases hq : b.1 = b.2
    · exact results_p s a b ha hb ⟨hp, hq⟩ w
    · cases n0 : (s.toList == [43]) with
      | true => exact results_addB s a b ha hb n0 hp hq w
      | false =>
      cases n1 : (s.toList == [42]) with
      | true => exact results_mulB s a b ha hb n0 n1 hp hq w
      | false =>
      cases n2 : (s.toList == [60, 60]) with
      | true => exact results_shlB s a b ha hb n0 n1 n2 hp hq w
      | false =>
      cases n3 : (s.toList == [45]) with
      | true => exact results_subB s a b ha hb n0 n1 n2 n3 hp hq w
      | false =>
      cases n4 : (s.toList == [47]) with
      | true => exact results_divB s a b ha hb n0 n1 n2 n3 n4 hp hq w
      | false =>
      cases n5 : (s.toList == [37]) with
      | true => exact results_modB s a b ha hb n0 n1 n2 n3 n4 n5 hp hq w
      | false =>
      cases n6 : (s.toList == [62, 62]) with
      | true => exact results_shrB s a b ha hb n0 n1 n2 n3 n4 n5 n6 hp hq w
      | false =>
      cases n7 : (s.toList == [38]) with
      | true => exact results_andB s a b ha hb n0 n1 n2 n3 n4 n5 n6 n7 hp hq w
      | false =>
      cases n8 : (s.toList == [124]) with
      | true => exact results_orB s a b ha hb n0 n1 n2 n3 n4 n5 n6 n7 n8 hp hq w
      | false =>
      exact results_elseB s a b ha hb n0 n1 n2 n3 n4 n5 n6 n7 n8 hp hq w
  · cases n0 : (s.toList == [43]) with
    | true => exact results_addA s a b ha hb n0 hp w
    | false =>
    cases n1 : (s.toList == [42]) with
    | true => exact results_mulA s a b ha hb n0 n1 hp w
    | false =>
    cases n2 : (s.toList == [60, 60]) with
    | true => exact results_shlA s a b ha hb n0 n1 n2 hp w
    | false =>
    cases n3 : (s.toList == [45]) with
    | true => exact results_subA s a b ha hb n0 n1 n2 n3 hp w
    | false =>
    cases n4 : (s.toList == [47]) with
    | true => exact results_divA s a b ha hb n0 n1 n2 n3 n4 hp w
    | false =>
    cases n5 : (s.toList == [37]) with
    | true => exact results_modA s a b ha hb n0 n1 n2 n3 n4 n5 hp w
    | false =>
    cases n6 : (s.toList == [62, 62]) with
    | true => exact results_shrA s a b ha hb n0 n1 n2 n3 n4 n5 n6 hp w
    | false =>
    cases n7 : (s.toList == [38]) with
    | true => exact results_andA s a b ha hb n0 n1 n2 n3 n4 n5 n6 n7 hp w
    | false =>
    cases n8 : (s.toList == [124]) with
    | true => exact results_orA s a b ha hb n0 n1 n2 n3 n4 n5 n6 n7 n8 hp w
    | false =>
    exact results_elseA s a b ha hb n0 n1 n2 n3 n4 n5 n6 n7 n8 hp w
end Go.Proofs.Ytoengahfkfmfeaa
