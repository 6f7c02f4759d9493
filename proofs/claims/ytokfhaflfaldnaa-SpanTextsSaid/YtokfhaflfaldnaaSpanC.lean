/- Contracts of layer 5: From, by package span and by the document. -/
import Derived.Test.YtokfhaflfaldnaaSpanB
namespace Go.Proofs.Ytokfhaflfaldnaa
open Go.ChangeShapes Go.WideShapes Go.ChangeAt Go.RowKit
set_option linter.unusedVariables false
attribute [local go_sem ↓] Go.wp_at_zero Go.wp_at_succ

theorem below2 {w w1 : World} {a b : Obj} (h : Below ((w.alloc a).alloc b).heap.size ((w.alloc a).alloc b) w1) : Below w.heap.size w w1 :=
  chain ((below_box w a).alloc (by simp) b) (by simp; try omega) h

/-- 'From (or Between) returned these numbers'. -/
abbrev pairV (p q t : Int) : Ending := .returned (.tuple #[.agg #[.int .i64 p, .int .i64 q], .int .i64 t])

theorem From_arg (a l x : Int) (ha : I64 a) (hl : I64 l) (h : ¬ Gd a l 4611686018427387904) (w : World) :
    Calls Try.prog 18 #[.agg #[.int .i64 a, .int .i64 l], .int .i64 x] w fun e w' => e = pairV 0 0 2 ∧ Below w.heap.size w w' := by
  have hG := fun w => valid_any a l ha hl w
  rw [gd_no h] at hG
  have HG := Lib.hid hG
  clear hG h
  go_enter Try.func18, Try.ntmps18
  go_wp2_with fail
  refine (HG.out _).mono ?_; rintro e w1 ⟨rfl, b1⟩
  obtain ⟨hc, hf⟩ := bcell b1
  go_wp2_with fail
  have hz := b1.size
  simp at hz
  refine bodyPost_ret (v := .tuple #[.agg #[.int .i64 0, .int .i64 0], .int .i64 2]) (by simp [results, Try.results18, go_sem, hc]) rfl ⟨rfl, ?_⟩
  refine Below.setCell (Below.setCell (below2 b1) ?_ _) ?_ _
  all_goals exact past _ _

theorem From_before (a l x : Int) (ha : I64 a) (hl : I64 l) (h : Gd a l 4611686018427387904) (hx : x < a) (w : World) :
    Calls Try.prog 18 #[.agg #[.int .i64 a, .int .i64 l], .int .i64 x] w fun e w' => e = pairV 0 0 3 ∧ Below w.heap.size w w' := by
  have hG := fun w => valid_any a l ha hl w
  rw [gd_yes h] at hG
  have HG := Lib.hid hG
  clear hG h
  go_enter Try.func18, Try.ntmps18
  go_wp2_with fail
  refine (HG.out _).mono ?_; rintro e w1 ⟨rfl, b1⟩
  obtain ⟨hc, hf⟩ := bcell b1
  go_wp2_with fail
  have hz := b1.size
  simp at hz
  refine bodyPost_ret (v := .tuple #[.agg #[.int .i64 0, .int .i64 0], .int .i64 3]) (by simp [results, Try.results18, go_sem, hc]) rfl ⟨rfl, ?_⟩
  refine Below.setCell (Below.setCell (below2 b1) ?_ _) ?_ _
  all_goals exact past _ _

theorem From_behind (a l x : Int) (ha : I64 a) (hl : I64 l) (h : Gd a l 4611686018427387904) (hx : a + l < x) (w : World) :
    Calls Try.prog 18 #[.agg #[.int .i64 a, .int .i64 l], .int .i64 x] w fun e w' => e = pairV 0 0 3 ∧ Below w.heap.size w w' := by
  have hG := fun w => valid_any a l ha hl w
  have hE := fun w => End_any a l ha hl w
  rw [gd_yes h] at hG
  rw [end_yes h] at hE
  have HG := Lib.hid hG
  have HE := Lib.hid hE
  obtain ⟨h1, h2, h3⟩ := h
  have hx' : a ≤ x := by omega
  have hd : decide (x < a) = false := by simpa using hx'
  clear hG hE
  go_enter Try.func18, Try.ntmps18
  go_wp2_with fail
  refine (HG.out _).mono ?_; rintro e w1 ⟨rfl, b1⟩
  obtain ⟨hc, hf⟩ := bcell b1
  go_wp2_with fail
  refine (HE.out _).mono ?_; rintro e w2 ⟨rfl, b2⟩
  obtain ⟨hc2, hf2⟩ := bcell b2
  have hz := b1.size
  have hz2 := b2.size
  simp at hz
  have b3 := chain (below2 b1) (Nat.le_refl _) b2
  have hb : w.heap.size + 1 < w1.heap.size := by omega
  go_wp2_with fail
  refine bodyPost_ret (v := .tuple #[.agg #[.int .i64 0, .int .i64 0], .int .i64 3]) (by simp [results, Try.results18, go_sem, hc, hc2, hb]) rfl ⟨rfl, ?_⟩
  refine Below.setCell (Below.setCell b3 ?_ _) ?_ _
  all_goals exact past _ _

theorem From_ok (a l x : Int) (ha : I64 a) (hl : I64 l) (h : Gd a l 4611686018427387904) (hx : a ≤ x) (hx2 : x ≤ a + l) (w : World) :
    Calls Try.prog 18 #[.agg #[.int .i64 a, .int .i64 l], .int .i64 x] w fun e w' => e = pairV x (a + l - x) 0 ∧ Below w.heap.size w w' := by
  have hG := fun w => valid_any a l ha hl w
  have hE := fun w => End_any a l ha hl w
  rw [gd_yes h] at hG
  rw [end_yes h] at hE
  have HG := Lib.hid hG
  have HE := Lib.hid hE
  obtain ⟨h1, h2, h3⟩ := h
  have hd : decide (x < a) = false := by simpa using hx
  clear hG hE
  go_enter Try.func18, Try.ntmps18
  go_wp2_with fail
  refine (HG.out _).mono ?_; rintro e w1 ⟨rfl, b1⟩
  obtain ⟨hc, hf⟩ := bcell b1
  have hz := b1.size
  simp at hz
  have hb1 : w.heap.size + 1 < w1.heap.size := by omega
  have hb0 : w.heap.size < w1.heap.size := by omega
  have hd2 : decide (a + l < x) = false := by simpa using hx2
  go_wp2_with fail
  refine (HE.out _).mono ?_; rintro e w2 ⟨rfl, b2⟩
  obtain ⟨hc2, hf2⟩ := bcell b2
  have hz2 := b2.size
  have b3 := chain (below2 b1) (Nat.le_refl _) b2
  have hb2 : w.heap.size + 1 < w2.heap.size := by omega
  have hb3 : w.heap.size < w2.heap.size := by omega
  go_wp2_with fail
  refine (HE.out _).mono ?_; rintro e w3 ⟨rfl, b4⟩
  obtain ⟨hc4, hf4⟩ := bcell b4
  have b5 := chain b3 (Nat.le_refl _) b4
  go_wp2_with fail
  refine bodyPost_ret (v := .tuple #[.agg #[.int .i64 x, .int .i64 (a + l - x)], .int .i64 0]) (by simp [results, Try.results18, go_sem, hc, hc2, hb1, hb2, hc4]) rfl ⟨rfl, ?_⟩
  refine Below.setCell (Below.setCell b5 ?_ _) ?_ _
  all_goals exact past _ _

theorem from_both (a l x : Int) (ha : I64 a) (hl : I64 l) (hx : I64 x) : ∃ p q t : Int, (I64 p ∧ I64 q ∧ 0 ≤ t ∧ t ≤ 9) ∧
    (∀ w, Calls Try.prog 18 #[.agg #[.int .i64 a, .int .i64 l], .int .i64 x] w fun e w' => e = pairV p q t ∧ Below w.heap.size w w') ∧
    ∀ w, Calls Try.prog 19 #[.int .i64 a, .int .i64 l, .int .i64 x] w fun e w' => e = pairV p q t ∧ Below w.heap.size w w' := by
  have hG := fun w => refGood_any a l 4611686018427387904 ha hl most_in w
  by_cases h : Gd a l 4611686018427387904
  · rw [gd_yes h] at hG
    have HG := Lib.hid hG
    clear hG
    by_cases h1 : x < a
    · refine ⟨0, 0, 3, by unfold I64; omega, From_before a l x ha hl h h1, fun w => ?_⟩
      obtain ⟨g1, g2, g3⟩ := h
      go_enter Try.func19, Try.ntmps19
      go_wp2_with fail
      refine (HG.out _).mono ?_; rintro e w1 ⟨rfl, rfl⟩
      go_wp2_with fail
      refine bodyPost_ret (v := .tuple #[.agg #[.int .i64 0, .int .i64 0], .int .i64 3]) (by simp [results, Try.results19, go_sem]) rfl ⟨rfl, ?_⟩
      exact below_box _ _
    have h1' : a ≤ x := by omega
    have hd : decide (x < a) = false := by simpa using h1'
    clear h1
    by_cases h2 : a + l < x
    · refine ⟨0, 0, 3, by unfold I64; omega, From_behind a l x ha hl h h2, fun w => ?_⟩
      obtain ⟨g1, g2, g3⟩ := h
      go_enter Try.func19, Try.ntmps19
      go_wp2_with fail
      refine (HG.out _).mono ?_; rintro e w1 ⟨rfl, rfl⟩
      go_wp2_with fail
      refine bodyPost_ret (v := .tuple #[.agg #[.int .i64 0, .int .i64 0], .int .i64 3]) (by simp [results, Try.results19, go_sem]) rfl ⟨rfl, ?_⟩
      exact below_box _ _
    · have h2' : x ≤ a + l := by omega
      clear h2
      refine ⟨x, a + l - x, 0, by unfold I64 at *; unfold Gd at h; omega, From_ok a l x ha hl h h1' h2', fun w => ?_⟩
      obtain ⟨g1, g2, g3⟩ := h
      go_enter Try.func19, Try.ntmps19
      go_wp2_with fail
      refine (HG.out _).mono ?_; rintro e w1 ⟨rfl, rfl⟩
      go_wp2_with fail
      refine bodyPost_ret (v := .tuple #[.agg #[.int .i64 x, .int .i64 (a + l - x)], .int .i64 0]) (by simp [results, Try.results19, go_sem]) rfl ⟨rfl, ?_⟩
      exact below_box _ _
  · rw [gd_no h] at hG
    refine ⟨0, 0, 2, by unfold I64; omega, From_arg a l x ha hl h, fun w => ?_⟩
    have HG := Lib.hid hG
    clear hG h
    go_enter Try.func19, Try.ntmps19
    go_wp2_with fail
    refine (HG.out _).mono ?_; rintro e w1 ⟨rfl, rfl⟩
    go_wp2_with fail
    refine bodyPost_ret (v := .tuple #[.agg #[.int .i64 0, .int .i64 0], .int .i64 2]) (by simp [results, Try.results19, go_sem]) rfl ⟨rfl, ?_⟩
    exact below_box _ _

end Go.Proofs.Ytokfhaflfaldnaa
