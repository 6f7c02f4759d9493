/- Contracts of layer 11: Op. -/
import Derived.Test.YtoengahfkfmfeaaBdB
set_option linter.unusedVariables false
set_option linter.unusedSimpArgs false
namespace Go.Proofs.Ytoengahfkfmfeaa
open Go.ChangeShapes Go.WideShapes Go.ChangeAt Go.RowKit

theorem opB_fst (l : List UInt8) (a b : Int × Int) (hv : a.1 ≤ a.2 ∧ b.1 ≤ b.2) (he : (resB l a b).2 = 0) : opB l a b = some (resB l a b).1 := by unfold opB; rw [if_pos hv, if_pos he]
theorem opB_err (l : List UInt8) (a b : Int × Int) (hv : a.1 ≤ a.2 ∧ b.1 ≤ b.2) (he : ¬ (resB l a b).2 = 0) : opB l a b = none := by unfold opB; rw [if_pos hv, if_neg he]
theorem opB_bad (l : List UInt8) (a b : Int × Int) (hv : ¬ (a.1 ≤ a.2 ∧ b.1 ≤ b.2)) : opB l a b = none := by unfold opB; rw [if_neg hv]
/-- 'returned this range, or false'. -/
abbrev optE (r : Option (Int × Int)) : Ending := .returned (.tuple #[.agg #[.int .u64 (r.getD (0, 0)).1, .int .u64 (r.getD (0, 0)).2], .bool r.isSome])
set_option maxRecDepth 100000 in
set_option maxHeartbeats 2000000 in
theorem bOp_any (s : ByteArray) (a b : Int × Int) (ha : WR a) (hb : WR b) (w : World) :
    Calls Try.prog 9 #[.string s, .agg #[.int .u64 a.1, .int .u64 a.2], .agg #[.int .u64 b.1, .int .u64 b.2]] w fun e w' => e = optE (opB s.toList a b) ∧ Below w.heap.size w w' := by
  have hr := fun w' => results_any s a b ha hb w'
  have T0 := Lib.hid (Tri.new w a.1 a.2 b.1 b.2)
  have B0 := Lib.hid (three_below w (.cells #[.int .u64 a.1, .int .u64 a.2] 25) (.cells #[.int .u64 b.1, .int .u64 b.2] 25) (.cells #[.int .u64 0, .int .u64 0] 25))
  by_cases hv : a.1 ≤ a.2 ∧ b.1 ≤ b.2
  · have he1 := opB_fst s.toList a b hv
    have he2 := opB_err s.toList a b hv
    generalize resB s.toList a b = r at *
    obtain ⟨⟨x, y⟩, er⟩ := r
    have HR : Hid (∀ w', Calls Try.prog 24 #[.string s, .agg #[.int .u64 a.1, .int .u64 a.2], .agg #[.int .u64 b.1, .int .u64 b.2]] w' fun e w'' => e = .returned (.tuple #[.agg #[.int .u64 x, .int .u64 y], .int .i64 er]) ∧ Below w'.heap.size w' w'') := Lib.hid hr
    clear hr
    obtain ⟨v1, v2⟩ := hv
    obtain ⟨a0, a1⟩ := a
    obtain ⟨b0, b1⟩ := b
    simp only at *
    have HE1 := Lib.hid he1
    have HE2 := Lib.hid he2
    clear he1 he2
    obtain ⟨c0, c1, c2, c3, c4, c5, f0, f1⟩ := T0.out.cells
    by_cases h0 : er = 0
    · subst h0
      rw [HE1.out rfl]
      go_enter Try.func9, Try.ntmps9
      go_upto_region 1 with fail
      generalize ((w.alloc (.cells #[.int .u64 a0, .int .u64 a1] 25)).alloc (.cells #[.int .u64 b0, .int .u64 b1] 25)).alloc (.cells #[.int .u64 0, .int .u64 0] 25) = W at *
      go_upto_region 3 with (go_at_call 23; refine (valid_any _ _ _).mono ?_; rintro e w' ⟨rfl, hb1⟩; replace T0 := Lib.hid (T0.out.below hb1 T0.out.lt); replace B0 := Lib.hid (chain2 B0.out hb1); clear hb1; obtain ⟨c0, c1, c2, c3, c4, c5, f0, f1⟩ := T0.out.cells)
      go_wp2_with (go_at_call 24; refine (HR.out _).mono ?_; rintro e w1 ⟨rfl, hb1⟩; replace T0 := Lib.hid (T0.out.below hb1 T0.out.lt); replace B0 := Lib.hid (chain2 B0.out hb1); clear hb1; have D3 : Duo (w1.alloc (.cells #[.int .u64 x, .int .u64 y] 25)) w1.heap.size 25 (.int .u64 x) (.int .u64 y) := World.alloc_heap_new _ _; have T1 := T0.out.below ((Below.refl w1.heap.size w1).alloc (Nat.le_refl _) (.cells #[.int .u64 x, .int .u64 y] 25)) T0.out.lt; obtain ⟨c0, c1, c2, c3, c4, c5, f0, f1⟩ := T1.cells; have d0 := D3.c0; have d1 := D3.c1)
      have q := T1.set (.int .u64 x) (.int .u64 y)
      refine bodyPost_ret (v := .tuple #[.agg #[.int .u64 x, .int .u64 y], .bool true]) (by simp [results, Try.results9, go_sem, q.1, q.2]) rfl ⟨rfl, ((B0.out.alloc B0.out.size _).setCell (p := ⟨w.heap.size + 1 + 1, 0, none⟩) (by show w.heap.size ≤ w.heap.size + 1 + 1; omega) _).setCell (p := ⟨w.heap.size + 1 + 1, 1, none⟩) (by show w.heap.size ≤ w.heap.size + 1 + 1; omega) _⟩
    · rw [HE2.out h0]
      go_enter Try.func9, Try.ntmps9
      go_upto_region 1 with fail
      generalize ((w.alloc (.cells #[.int .u64 a0, .int .u64 a1] 25)).alloc (.cells #[.int .u64 b0, .int .u64 b1] 25)).alloc (.cells #[.int .u64 0, .int .u64 0] 25) = W at *
      go_upto_region 3 with (go_at_call 23; refine (valid_any _ _ _).mono ?_; rintro e w' ⟨rfl, hb1⟩; replace T0 := Lib.hid (T0.out.below hb1 T0.out.lt); replace B0 := Lib.hid (chain2 B0.out hb1); clear hb1; obtain ⟨c0, c1, c2, c3, c4, c5, f0, f1⟩ := T0.out.cells)
      go_wp2_with (go_at_call 24; refine (HR.out _).mono ?_; rintro e w1 ⟨rfl, hb1⟩; replace T0 := Lib.hid (T0.out.below hb1 T0.out.lt); replace B0 := Lib.hid (chain2 B0.out hb1); clear hb1; have D3 : Duo (w1.alloc (.cells #[.int .u64 x, .int .u64 y] 25)) w1.heap.size 25 (.int .u64 x) (.int .u64 y) := World.alloc_heap_new _ _; have T1 := T0.out.below ((Below.refl w1.heap.size w1).alloc (Nat.le_refl _) (.cells #[.int .u64 x, .int .u64 y] 25)) T0.out.lt; obtain ⟨c0, c1, c2, c3, c4, c5, f0, f1⟩ := T1.cells; have d0 := D3.c0; have d1 := D3.c1)
      have q := T1.set (.int .u64 0) (.int .u64 0)
      refine bodyPost_ret (v := .tuple #[.agg #[.int .u64 0, .int .u64 0], .bool false]) (by simp [results, Try.results9, go_sem, q.1, q.2]) rfl ⟨rfl, ((B0.out.alloc B0.out.size _).setCell (p := ⟨w.heap.size + 1 + 1, 0, none⟩) (by show w.heap.size ≤ w.heap.size + 1 + 1; omega) _).setCell (p := ⟨w.heap.size + 1 + 1, 1, none⟩) (by show w.heap.size ≤ w.heap.size + 1 + 1; omega) _⟩
  · rw [opB_bad s.toList a b hv]
    clear hr
    obtain ⟨a0, a1⟩ := a
    obtain ⟨b0, b1⟩ := b
    simp only at *
    obtain ⟨c0, c1, c2, c3, c4, c5, f0, f1⟩ := T0.out.cells
    go_enter Try.func9, Try.ntmps9
    go_upto_region 1 with fail
    generalize ((w.alloc (.cells #[.int .u64 a0, .int .u64 a1] 25)).alloc (.cells #[.int .u64 b0, .int .u64 b1] 25)).alloc (.cells #[.int .u64 0, .int .u64 0] 25) = W at *
    by_cases v1 : a0 ≤ a1
    · have v2 : ¬ b0 ≤ b1 := fun h => hv ⟨v1, h⟩
      have v3 : decide (b0 ≤ b1) = false := decide_eq_false v2
      clear v2
      clear hv
      go_wp2_with (go_at_call 23; refine (valid_any _ _ _).mono ?_; rintro e w' ⟨rfl, hb1⟩; replace T0 := Lib.hid (T0.out.below hb1 T0.out.lt); replace B0 := Lib.hid (chain2 B0.out hb1); clear hb1; obtain ⟨c0, c1, c2, c3, c4, c5, f0, f1⟩ := T0.out.cells)
      have q := T0.out.set (.int .u64 0) (.int .u64 0)
      exact bodyPost_ret (v := .tuple #[.agg #[.int .u64 0, .int .u64 0], .bool false]) (by simp [results, Try.results9, go_sem, q.1, q.2]) rfl ⟨rfl, (B0.out.setCell (p := ⟨w.heap.size + 1 + 1, 0, none⟩) (by show w.heap.size ≤ w.heap.size + 1 + 1; omega) _).setCell (p := ⟨w.heap.size + 1 + 1, 1, none⟩) (by show w.heap.size ≤ w.heap.size + 1 + 1; omega) _⟩
    · clear hv
      go_wp2_with (go_at_call 23; refine (valid_any _ _ _).mono ?_; rintro e w' ⟨rfl, hb1⟩; replace T0 := Lib.hid (T0.out.below hb1 T0.out.lt); replace B0 := Lib.hid (chain2 B0.out hb1); clear hb1; obtain ⟨c0, c1, c2, c3, c4, c5, f0, f1⟩ := T0.out.cells)
      have q := T0.out.set (.int .u64 0) (.int .u64 0)
      exact bodyPost_ret (v := .tuple #[.agg #[.int .u64 0, .int .u64 0], .bool false]) (by simp [results, Try.results9, go_sem, q.1, q.2]) rfl ⟨rfl, (B0.out.setCell (p := ⟨w.heap.size + 1 + 1, 0, none⟩) (by show w.heap.size ≤ w.heap.size + 1 + 1; omega) _).setCell (p := ⟨w.heap.size + 1 + 1, 1, none⟩) (by show w.heap.size ≤ w.heap.size + 1 + 1; omega) _⟩
end Go.Proofs.Ytoengahfkfmfeaa
