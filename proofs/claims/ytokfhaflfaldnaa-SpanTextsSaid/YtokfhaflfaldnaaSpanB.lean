/- Contracts of layer 5: Of and Take, by package span and by the document. -/
import Derived.Test.YtokfhaflfaldnaaSpanA
import Derived.Deep.DrawnRows
import Derived.IntWalk
namespace Go.Proofs.Ytokfhaflfaldnaa
open Go.ChangeShapes Go.WideShapes Go.ChangeAt Go.RowKit
set_option linter.unusedVariables false
attribute [local go_sem ↓] Go.wp_at_zero Go.wp_at_succ

theorem bcell {W w1 : World} (hb : Below W.heap.size W w1) : (∀ b o, b < W.heap.size → w1.cell? ⟨b, o, none⟩ = W.cell? ⟨b, o, none⟩) ∧ (∀ b o, b < W.heap.size → w1.frozen? ⟨b, o, none⟩ = W.frozen? ⟨b, o, none⟩) :=
  ⟨fun b o h => hb.cell (p := ⟨b, o, none⟩) h, fun b o h => hb.frozen (p := ⟨b, o, none⟩) h⟩

theorem below3 {w w1 : World} {a b c : Obj} (h : Below (((w.alloc a).alloc b).alloc c).heap.size (((w.alloc a).alloc b).alloc c) w1) : Below w.heap.size w w1 :=
  chain (((below_box w a).alloc (by simp) b).alloc (by simp; omega) c) (by simp; try omega) h
theorem past (m k : Nat) : m ≤ m + k := Nat.le_add_right _ _
theorem past2 (m : Nat) : m ≤ m + 1 + 1 := by omega

theorem box_in {w : World} {v0 v1 : Value} {t : TypeId} : (w.alloc (.cells #[v0, v1] t)).cell? ⟨w.heap.size, 0, none⟩ = some v0 ∧ (w.alloc (.cells #[v0, v1] t)).cell? ⟨w.heap.size, 1, none⟩ = some v1 := by
  constructor
  all_goals
    rw [cell_of_row _ _ _ _ _ (0, 0) (heap_alloc_new w _)]
    rfl
theorem box_in2 {w : World} {v0 v1 : Value} {t : TypeId} (b : Obj) : ((w.alloc (.cells #[v0, v1] t)).alloc b).cell? ⟨w.heap.size, 0, none⟩ = some v0 ∧ ((w.alloc (.cells #[v0, v1] t)).alloc b).cell? ⟨w.heap.size, 1, none⟩ = some v1 := by
  exact ⟨(World.cell?_alloc_lt _ _ _ (by simp)).trans box_in.1, (World.cell?_alloc_lt _ _ _ (by simp)).trans box_in.2⟩
theorem box_in3 {w : World} {v0 v1 : Value} {t : TypeId} (b c : Obj) : (((w.alloc (.cells #[v0, v1] t)).alloc b).alloc c).cell? ⟨w.heap.size, 0, none⟩ = some v0 ∧ (((w.alloc (.cells #[v0, v1] t)).alloc b).alloc c).cell? ⟨w.heap.size, 1, none⟩ = some v1 := by
  exact ⟨(World.cell?_alloc_lt _ _ _ (by simp; try omega)).trans (box_in2 b).1, (World.cell?_alloc_lt _ _ _ (by simp; try omega)).trans (box_in2 b).2⟩
theorem cell_far {w : World} {b o g i : Nat} {v x : Value} (h : w.cell? ⟨b, o, none⟩ = some x) (hne : b ≠ g) : (w.setCell ⟨g, i, none⟩ v).cell? ⟨b, o, none⟩ = some x := by
  rw [World.cell?_setCell_other _ _ _ _ (by intro e; injection e with e; exact hne e.symm)]; exact h
theorem cell_drew {w : World} {p : Addr} {x : Value} (h : w.cell? p = some x) : w.drew.cell? p = some x := h

abbrev spanV (a l : Int) : Value := .agg #[.int .i64 a, .int .i64 l]

theorem Of_in (n : Int) (h1 : 0 ≤ n) (h2 : n ≤ 4611686018427387904) (w : World) :
    Calls Try.prog 14 #[.int .i64 n] w fun e w' => e = .returned (spanV 0 n) ∧ Below w.heap.size w w' := by
  go_enter Try.func14, Try.ntmps14
  go_wp2
  exact bodyPost_ret (v := spanV 0 n) (by simp [results, Try.results14, go_sem]) rfl ⟨rfl, below_box _ _⟩
theorem Of_out (n : Int) (h : n < 0 ∨ 4611686018427387904 < n) (w : World) :
    Calls Try.prog 14 #[.int .i64 n] w fun e w' => e = .returned (spanV 0 0) ∧ Below w.heap.size w w' := by
  by_cases h1 : n < 0
  · clear h
    go_enter Try.func14, Try.ntmps14
    go_wp2
    exact bodyPost_ret (v := spanV 0 0) (by simp [results, Try.results14, go_sem]) rfl ⟨rfl, below_box _ _⟩
  · have h2 : 4611686018427387904 < n := by omega
    clear h
    go_enter Try.func14, Try.ntmps14
    go_wp2
    exact bodyPost_ret (v := spanV 0 0) (by simp [results, Try.results14, go_sem]) rfl ⟨rfl, below_box _ _⟩

/-- 'Take returned these numbers'. -/
abbrev takeV (p q r s t : Int) : Ending := .returned (.tuple #[.agg #[.int .i64 p, .int .i64 q], .agg #[.int .i64 r, .int .i64 s], .int .i64 t])
abbrev takeD (p q r s t : Int) : Ending := .returned (.tuple #[.agg #[.int .i64 p, .int .i64 q, .int .i64 r, .int .i64 s], .int .i64 t])

theorem Take_arg (a l n : Int) (ha : I64 a) (hl : I64 l) (h : ¬ Gd a l 4611686018427387904) (w : World) :
    Calls Try.prog 16 #[.agg #[.int .i64 a, .int .i64 l], .int .u64 n] w fun e w' => e = takeV 0 0 0 0 2 ∧ Below w.heap.size w w' := by
  have hG := fun w => valid_any a l ha hl w
  rw [gd_no h] at hG
  have HG := Lib.hid hG
  clear hG h
  go_enter Try.func16, Try.ntmps16
  go_wp2_with fail
  refine (HG.out _).mono ?_; rintro e w1 ⟨rfl, b1⟩
  obtain ⟨hc, hf⟩ := bcell b1
  go_wp2_with fail
  have hz := b1.size
  simp at hz
  refine bodyPost_ret (v := .tuple #[.agg #[.int .i64 0, .int .i64 0], .agg #[.int .i64 0, .int .i64 0], .int .i64 2]) (by simp [results, Try.results16, go_sem, hc]) rfl ⟨rfl, ?_⟩
  refine Below.setCell (Below.setCell (Below.setCell (Below.setCell (below3 b1) ?_ _) ?_ _) ?_ _) ?_ _
  all_goals first | exact past _ _ | exact past2 _

theorem Take_range (a l n : Int) (ha : I64 a) (hl : I64 l) (hn : n ≤ 18446744073709551615) (h : Gd a l 4611686018427387904) (hln : l < n) (w : World) :
    Calls Try.prog 16 #[.agg #[.int .i64 a, .int .i64 l], .int .u64 n] w fun e w' => e = takeV 0 0 0 0 3 ∧ Below w.heap.size w w' := by
  have hG := fun w => valid_any a l ha hl w
  rw [gd_yes h] at hG
  obtain ⟨h1, h2, h3⟩ := h
  have HG := Lib.hid hG
  clear hG
  go_enter Try.func16, Try.ntmps16
  go_wp2_with fail
  refine (HG.out _).mono ?_; rintro e w1 ⟨rfl, b1⟩
  obtain ⟨hc, hf⟩ := bcell b1
  go_wp2_with fail
  have hz := b1.size
  simp at hz
  refine bodyPost_ret (v := .tuple #[.agg #[.int .i64 0, .int .i64 0], .agg #[.int .i64 0, .int .i64 0], .int .i64 3]) (by simp [results, Try.results16, go_sem, hc]) rfl ⟨rfl, ?_⟩
  refine Below.setCell (Below.setCell (Below.setCell (Below.setCell (below3 b1) ?_ _) ?_ _) ?_ _) ?_ _
  all_goals first | exact past _ _ | exact past2 _

set_option maxHeartbeats 2000000 in
theorem Take_ok (a l n : Int) (ha : I64 a) (hl : I64 l) (hn : 0 ≤ n) (h : Gd a l 4611686018427387904) (hln : n ≤ l) (w : World) :
    Calls Try.prog 16 #[.agg #[.int .i64 a, .int .i64 l], .int .u64 n] w fun e w' => e = takeV a n (a + n) (l - n) 0 ∧ Below w.heap.size w w' := by
  have hG := fun w => valid_any a l ha hl w
  rw [gd_yes h] at hG
  obtain ⟨h1, h2, h3⟩ := h
  have HG := Lib.hid hG
  clear hG
  go_enter Try.func16, Try.ntmps16
  go_wp2_with fail
  refine (HG.out _).mono ?_; rintro e w1 ⟨rfl, b1⟩
  obtain ⟨hc, hf⟩ := bcell b1
  go_wp2_with fail
  have hz := b1.size
  simp at hz
  have c0 := (b1.cell (by simp; omega)).trans (box_in3 _ _).1
  have c1 := (b1.cell (by simp; omega)).trans (box_in3 _ _).2
  have e1 : IntKind.i64.wrap (a + n) = a + n := IntWalk.i64_in _ (by omega)
  have e2 : IntKind.i64.wrap (l - n) = l - n := IntWalk.i64_in _ (by omega)
  go_region_held3 (fun w' => w'.cell? ⟨w.heap.size, 0, none⟩ = some (.int .i64 a) ∧ w'.cell? ⟨w.heap.size, 1, none⟩ = some (.int .i64 l))
    (first | exact ⟨c0, c1⟩ | (go_split_ands; refine ⟨?_, ?_⟩ <;> ((try (with_reducible refine cell_drew ?_)); (repeat (with_reducible refine cell_far ?_ (by omega))); assumption))) (fail)
  go_wp2_with fail
  refine bodyPost_ret (v := .tuple #[.agg #[.int .i64 a, .int .i64 n], .agg #[.int .i64 (a + n), .int .i64 (l - n)], .int .i64 0]) (by simp [results, Try.results16, go_sem, hc]) rfl ⟨rfl, ?_⟩
  refine below_drew (Below.setCell (Below.setCell (Below.setCell (Below.setCell (below3 b1) ?_ _) ?_ _) ?_ _) ?_ _)
  all_goals first | exact past _ _ | exact past2 _

theorem take_both (a l n : Int) (ha : I64 a) (hl : I64 l) (h0 : 0 ≤ n) (hn : n ≤ 18446744073709551615) : ∃ p q r s t : Int, (I64 p ∧ I64 q ∧ I64 r ∧ I64 s ∧ 0 ≤ t ∧ t ≤ 9) ∧
    (∀ w, Calls Try.prog 16 #[.agg #[.int .i64 a, .int .i64 l], .int .u64 n] w fun e w' => e = takeV p q r s t ∧ Below w.heap.size w w') ∧
    ∀ w, Calls Try.prog 17 #[.int .i64 a, .int .i64 l, .int .u64 n] w fun e w' => e = takeD p q r s t ∧ Below w.heap.size w w' := by
  have hG := fun w => refGood_any a l 4611686018427387904 ha hl most_in w
  by_cases h : Gd a l 4611686018427387904
  · rw [gd_yes h] at hG
    have HG := Lib.hid hG
    clear hG
    by_cases hln : l < n
    · refine ⟨0, 0, 0, 0, 3, by unfold I64; omega, Take_range a l n ha hl hn h hln, fun w => ?_⟩
      obtain ⟨h1, h2, h3⟩ := h
      go_enter Try.func17, Try.ntmps17
      go_wp2_with fail
      refine (HG.out _).mono ?_; rintro e w1 ⟨rfl, rfl⟩
      go_wp2_with fail
      refine bodyPost_ret (v := .tuple #[.agg #[.int .i64 0, .int .i64 0, .int .i64 0, .int .i64 0], .int .i64 3]) (by simp [results, Try.results17, go_sem]) rfl ⟨rfl, ?_⟩
      exact below_box _ _
    · refine ⟨a, n, a + n, l - n, 0, by unfold I64 at *; unfold Gd at h; omega, Take_ok a l n ha hl h0 h (by omega), fun w => ?_⟩
      obtain ⟨h1, h2, h3⟩ := h
      go_enter Try.func17, Try.ntmps17
      go_wp2_with fail
      refine (HG.out _).mono ?_; rintro e w1 ⟨rfl, rfl⟩
      go_wp2_with fail
      refine bodyPost_ret (v := .tuple #[.agg #[.int .i64 a, .int .i64 n, .int .i64 (a + n), .int .i64 (l - n)], .int .i64 0]) (by simp [results, Try.results17, go_sem]) rfl ⟨rfl, ?_⟩
      exact below_box _ _
  · rw [gd_no h] at hG
    refine ⟨0, 0, 0, 0, 2, by unfold I64; omega, Take_arg a l n ha hl h, fun w => ?_⟩
    have HG := Lib.hid hG
    clear hG h
    go_enter Try.func17, Try.ntmps17
    go_wp2_with fail
    refine (HG.out _).mono ?_; rintro e w1 ⟨rfl, rfl⟩
    go_wp2_with fail
    refine bodyPost_ret (v := .tuple #[.agg #[.int .i64 0, .int .i64 0, .int .i64 0, .int .i64 0], .int .i64 2]) (by simp [results, Try.results17, go_sem]) rfl ⟨rfl, ?_⟩
    exact below_box _ _

end Go.Proofs.Ytokfhaflfaldnaa
