/- Contracts of layer 5: the document's Between, and Has. -/
import Derived.Test.YtokfhaflfaldnaaSpanD
import Derived.Deep.RegionWith
namespace Go.Proofs.Ytokfhaflfaldnaa
open Go.ChangeShapes Go.WideShapes Go.ChangeAt Go.RowKit
set_option linter.unusedVariables false
attribute [local go_sem ↓] Go.wp_at_zero Go.wp_at_succ

theorem refBetween_arg2 (a l a' l' : Int) (ha : I64 a) (hl : I64 l) (ha' : I64 a') (hl' : I64 l') (h : Gd a l 4611686018427387904) (h' : ¬ Gd a' l' 4611686018427387904) (w : World) :
    Calls Try.prog 21 #[.agg #[.int .i64 a, .int .i64 l, .int .i64 a', .int .i64 l']] w fun e w' => e = pairV 0 0 2 ∧ Below w.heap.size w w' := by
  have hG := fun w => refGood_any a l 4611686018427387904 ha hl most_in w
  rw [gd_yes h] at hG
  have hH := fun w => refGood_any a' l' 4611686018427387904 ha' hl' most_in w
  rw [gd_no h'] at hH
  have HG := Lib.hid hG
  have HH := Lib.hid hH
  clear hG hH h h'
  go_enter Try.func21, Try.ntmps21
  go_wp2_with fail
  refine (HG.out _).mono ?_; rintro e w1 ⟨rfl, rfl⟩
  go_wp2_with fail
  refine (HH.out _).mono ?_; rintro e w1 ⟨rfl, rfl⟩
  go_wp2_with fail
  exact bodyPost_ret (v := .tuple #[.agg #[.int .i64 0, .int .i64 0], .int .i64 2]) (by simp [results, Try.results21, go_sem]) rfl ⟨rfl, below_two _ _ _⟩

theorem refBetween_range (a l a' l' : Int) (ha : I64 a) (hl : I64 l) (ha' : I64 a') (hl' : I64 l') (h : Gd a l 4611686018427387904) (h' : Gd a' l' 4611686018427387904) (hx : a' + l' < a) (w : World) :
    Calls Try.prog 21 #[.agg #[.int .i64 a, .int .i64 l, .int .i64 a', .int .i64 l']] w fun e w' => e = pairV 0 0 3 ∧ Below w.heap.size w w' := by
  have hG := fun w => refGood_any a l 4611686018427387904 ha hl most_in w
  rw [gd_yes h] at hG
  have hH := fun w => refGood_any a' l' 4611686018427387904 ha' hl' most_in w
  rw [gd_yes h'] at hH
  have HG := Lib.hid hG
  have HH := Lib.hid hH
  obtain ⟨g1, g2, g3⟩ := h
  obtain ⟨k1, k2, k3⟩ := h'
  clear hG hH
  go_enter Try.func21, Try.ntmps21
  go_wp2_with fail
  refine (HG.out _).mono ?_; rintro e w1 ⟨rfl, rfl⟩
  go_wp2_with fail
  refine (HH.out _).mono ?_; rintro e w1 ⟨rfl, rfl⟩
  go_wp2_with fail
  exact bodyPost_ret (v := .tuple #[.agg #[.int .i64 0, .int .i64 0], .int .i64 3]) (by simp [results, Try.results21, go_sem]) rfl ⟨rfl, below_two _ _ _⟩

theorem refBetween_ok (a l a' l' : Int) (ha : I64 a) (hl : I64 l) (ha' : I64 a') (hl' : I64 l') (h : Gd a l 4611686018427387904) (h' : Gd a' l' 4611686018427387904) (hx : a ≤ a' + l') (w : World) :
    Calls Try.prog 21 #[.agg #[.int .i64 a, .int .i64 l, .int .i64 a', .int .i64 l']] w fun e w' => e = pairV a (a' + l' - a) 0 ∧ Below w.heap.size w w' := by
  have hG := fun w => refGood_any a l 4611686018427387904 ha hl most_in w
  rw [gd_yes h] at hG
  have hH := fun w => refGood_any a' l' 4611686018427387904 ha' hl' most_in w
  rw [gd_yes h'] at hH
  have HG := Lib.hid hG
  have HH := Lib.hid hH
  obtain ⟨g1, g2, g3⟩ := h
  obtain ⟨k1, k2, k3⟩ := h'
  have hd : decide (a' + l' < a) = false := by simpa using hx
  clear hG hH
  go_enter Try.func21, Try.ntmps21
  go_wp2_with fail
  refine (HG.out _).mono ?_; rintro e w1 ⟨rfl, rfl⟩
  go_wp2_with fail
  refine (HH.out _).mono ?_; rintro e w1 ⟨rfl, rfl⟩
  go_wp2_with fail
  exact bodyPost_ret (v := .tuple #[.agg #[.int .i64 a, .int .i64 (a' + l' - a)], .int .i64 0]) (by simp [results, Try.results21, go_sem]) rfl ⟨rfl, below_two _ _ _⟩

theorem between_both (a l a' l' : Int) (ha : I64 a) (hl : I64 l) (ha' : I64 a') (hl' : I64 l') : ∃ p q t : Int, (I64 p ∧ I64 q ∧ 0 ≤ t ∧ t ≤ 9) ∧
    (∀ w, Calls Try.prog 20 #[.agg #[.int .i64 a, .int .i64 l], .agg #[.int .i64 a', .int .i64 l']] w fun e w' => e = pairV p q t ∧ Below w.heap.size w w') ∧
    ∀ w, Calls Try.prog 21 #[.agg #[.int .i64 a, .int .i64 l, .int .i64 a', .int .i64 l']] w fun e w' => e = pairV p q t ∧ Below w.heap.size w w' := by
  by_cases h : Gd a l 4611686018427387904
  · by_cases h' : Gd a' l' 4611686018427387904
    · by_cases hx : a' + l' < a
      · exact ⟨0, 0, 3, by unfold I64; omega, Between_range a l a' l' ha hl ha' hl' h h' hx, refBetween_range a l a' l' ha hl ha' hl' h h' hx⟩
      · have hx' : a ≤ a' + l' := by omega
        exact ⟨a, a' + l' - a, 0, by unfold I64 at *; unfold Gd at h h'; omega, Between_ok a l a' l' ha hl ha' hl' h h' hx', refBetween_ok a l a' l' ha hl ha' hl' h h' hx'⟩
    · exact ⟨0, 0, 2, by unfold I64; omega, Between_arg2 a l a' l' ha hl ha' hl' h h', refBetween_arg2 a l a' l' ha hl ha' hl' h h'⟩
  · exact ⟨0, 0, 2, by unfold I64; omega, Between_arg1 a l a' l' ha hl h, refBetween_arg1 a l a' l' ha hl ha' hl' h⟩

theorem hasV_no1 {a l a' l' : Int} (h : ¬ Gd a l 4611686018427387904) : hasB a l a' l' = false := by unfold hasB; rw [gd_no h]; rfl
theorem hasV_no2 {a l a' l' : Int} (h : ¬ Gd a' l' 4611686018427387904) : hasB a l a' l' = false := by unfold hasB; rw [gd_no h]; simp
theorem hasV_yes {a l a' l' : Int} (h : Gd a l 4611686018427387904) (h' : Gd a' l' 4611686018427387904) : hasB a l a' l' = (decide (a ≤ a') && decide (a' + l' ≤ a + l)) := by unfold hasB; rw [gd_yes h, gd_yes h']; simp

/-- What is held while Has calls: two spans. -/
theorem two_keep {w0 w1 w2 : World} {p : Nat} {a l a' l' : Int} (hb : Below w1.heap.size w1 w2) (h1 : w1.cell? ⟨p, 0, none⟩ = some (.int .i64 a)) (h2 : w1.cell? ⟨p, 1, none⟩ = some (.int .i64 l)) (h3 : w1.cell? ⟨p + 1, 0, none⟩ = some (.int .i64 a')) (h4 : w1.cell? ⟨p + 1, 1, none⟩ = some (.int .i64 l')) (h5 : p + 1 < w1.heap.size) (h6 : Below w0.heap.size w0 w1) :
    w2.cell? ⟨p, 0, none⟩ = some (.int .i64 a) ∧ w2.cell? ⟨p, 1, none⟩ = some (.int .i64 l) ∧ w2.cell? ⟨p + 1, 0, none⟩ = some (.int .i64 a') ∧ w2.cell? ⟨p + 1, 1, none⟩ = some (.int .i64 l') ∧ p + 1 < w2.heap.size ∧ Below w0.heap.size w0 w2 := by
  obtain ⟨k1, k2, k3, k4, k5⟩ := Two.keep ⟨h1, h2, h3, h4, h5⟩ hb
  exact ⟨k1, k2, k3, k4, k5, chain h6 (Nat.le_refl _) hb⟩

set_option maxHeartbeats 2000000 in
theorem Has_any (a l a' l' : Int) (ha : I64 a) (hl : I64 l) (ha' : I64 a') (hl' : I64 l') (w : World) :
    Calls Try.prog 22 #[.agg #[.int .i64 a, .int .i64 l], .agg #[.int .i64 a', .int .i64 l']] w fun e w' => e = .returned (.bool (hasB a l a' l')) ∧ Below w.heap.size w w' := by
  have hG := fun w => valid_any a l ha hl w
  have hH := fun w => valid_any a' l' ha' hl' w
  have hE := fun w => End_any a l ha hl w
  have hF := fun w => End_any a' l' ha' hl' w
  by_cases h : Gd a l 4611686018427387904
  · rw [gd_yes h] at hG
    rw [end_yes h] at hE
    by_cases h' : Gd a' l' 4611686018427387904
    · rw [gd_yes h'] at hH
      rw [end_yes h'] at hF
      rw [hasV_yes h h']
      have HG := Lib.hid hG
      have HH := Lib.hid hH
      have HE := Lib.hid hE
      have HF := Lib.hid hF
      clear hG hH hE hF h h'
      by_cases hx : a ≤ a'
      · have hd : decide (a ≤ a') = true := by simpa using hx
        rw [hd]
        go_enter Try.func22, Try.ntmps22
        go_wp2_with fail
        obtain ⟨t1, t2, t3, t4, t5⟩ := Two.mk (w := w) (a := a) (l := l) (a' := a') (l' := l') (t := 26) (t' := 26)
        have b0 := below_two w (.cells #[.int .i64 a, .int .i64 l] 26) (.cells #[.int .i64 a', .int .i64 l'] 26)
        generalize (w.alloc (.cells #[.int .i64 a, .int .i64 l] 26)).alloc (.cells #[.int .i64 a', .int .i64 l'] 26) = W at *
        go_region_held3 (fun w' => w'.cell? ⟨w.heap.size, 0, none⟩ = some (.int .i64 a) ∧ w'.cell? ⟨w.heap.size, 1, none⟩ = some (.int .i64 l) ∧ w'.cell? ⟨w.heap.size + 1, 0, none⟩ = some (.int .i64 a') ∧ w'.cell? ⟨w.heap.size + 1, 1, none⟩ = some (.int .i64 l') ∧ w.heap.size + 1 < w'.heap.size ∧ Below w.heap.size w w')
          (first | exact ⟨t1, t2, t3, t4, t5, below_drew b0⟩ | (go_split_ands; exact two_keep (by assumption) (by assumption) (by assumption) (by assumption) (by assumption) (by assumption) (by assumption)) | go_keep)
          (first | ((with_reducible refine (HG.out _).mono ?_); rintro e w4 ⟨rfl, b4⟩) | ((with_reducible refine (HH.out _).mono ?_); rintro e w4 ⟨rfl, b4⟩) | ((with_reducible refine (HE.out _).mono ?_); rintro e w4 ⟨rfl, b4⟩) | ((with_reducible refine (HF.out _).mono ?_); rintro e w4 ⟨rfl, b4⟩))
        rename_i hHeld
        have s6 := hHeld.2.2.2.2.2
        clear hHeld t1 t2 t3 t4 t5
        go_wp2_with fail
        go_ret
        exact ⟨retB (by simp), s6⟩
      · have hd : decide (a ≤ a') = false := by simpa using hx
        rw [hd]
        clear hx
        go_enter Try.func22, Try.ntmps22
        go_wp2_with fail
        obtain ⟨t1, t2, t3, t4, t5⟩ := Two.mk (w := w) (a := a) (l := l) (a' := a') (l' := l') (t := 26) (t' := 26)
        have b0 := below_two w (.cells #[.int .i64 a, .int .i64 l] 26) (.cells #[.int .i64 a', .int .i64 l'] 26)
        generalize (w.alloc (.cells #[.int .i64 a, .int .i64 l] 26)).alloc (.cells #[.int .i64 a', .int .i64 l'] 26) = W at *
        first
          | go_region_with (first | ((with_reducible refine (HG.out _).mono ?_); rintro e w4 ⟨rfl, b4⟩; obtain ⟨u1, u2, u3, u4, u5, u6⟩ := two_keep (w0 := w) b4 t1 t2 t3 t4 t5 (below_drew b0)) | ((with_reducible refine (HH.out _).mono ?_); rintro e w5 ⟨rfl, b5⟩; obtain ⟨v1, v2, v3, v4, v5, v6⟩ := two_keep (w0 := w) b5 u1 u2 u3 u4 u5 u6))
          | fail
        all_goals
          go_wp2_with fail
          go_ret
          exact ⟨retB (by simp), v6⟩
    · rw [gd_no h'] at hH
      rw [hasV_no2 h']
      have HG := Lib.hid hG
      have HH := Lib.hid hH
      clear hG hH hE hF h h'
      go_enter Try.func22, Try.ntmps22
      go_wp2_with fail
      obtain ⟨t1, t2, t3, t4, t5⟩ := Two.mk (w := w) (a := a) (l := l) (a' := a') (l' := l') (t := 26) (t' := 26)
      have b0 := below_two w (.cells #[.int .i64 a, .int .i64 l] 26) (.cells #[.int .i64 a', .int .i64 l'] 26)
      generalize (w.alloc (.cells #[.int .i64 a, .int .i64 l] 26)).alloc (.cells #[.int .i64 a', .int .i64 l'] 26) = W at *
      first
        | go_region_with (first | ((with_reducible refine (HG.out _).mono ?_); rintro e w4 ⟨rfl, b4⟩; obtain ⟨u1, u2, u3, u4, u5, u6⟩ := two_keep (w0 := w) b4 t1 t2 t3 t4 t5 (below_drew b0)) | ((with_reducible refine (HH.out _).mono ?_); rintro e w5 ⟨rfl, b5⟩; obtain ⟨v1, v2, v3, v4, v5, v6⟩ := two_keep (w0 := w) b5 u1 u2 u3 u4 u5 u6))
        | fail
      all_goals
        go_wp2_with fail
        go_ret
        exact ⟨retB (by simp), v6⟩
  · rw [gd_no h] at hG
    rw [hasV_no1 h]
    have HG := Lib.hid hG
    clear hG hH hE hF h
    go_enter Try.func22, Try.ntmps22
    go_wp2_with fail
    obtain ⟨t1, t2, t3, t4, t5⟩ := Two.mk (w := w) (a := a) (l := l) (a' := a') (l' := l') (t := 26) (t' := 26)
    have b0 := below_two w (.cells #[.int .i64 a, .int .i64 l] 26) (.cells #[.int .i64 a', .int .i64 l'] 26)
    generalize (w.alloc (.cells #[.int .i64 a, .int .i64 l] 26)).alloc (.cells #[.int .i64 a', .int .i64 l'] 26) = W at *
    first
      | go_region_with (first | ((with_reducible refine (HG.out _).mono ?_); rintro e w4 ⟨rfl, b4⟩; obtain ⟨u1, u2, u3, u4, u5, u6⟩ := two_keep (w0 := w) b4 t1 t2 t3 t4 t5 (below_drew b0)))
      | fail
    all_goals
      go_wp2_with fail
      go_ret
      exact ⟨retB (by simp), u6⟩

theorem refHas_any (a l a' l' : Int) (ha : I64 a) (hl : I64 l) (ha' : I64 a') (hl' : I64 l') (w : World) :
    Calls Try.prog 23 #[.int .i64 a, .int .i64 l, .int .i64 a', .int .i64 l'] w fun e w' => e = .returned (.bool (hasB a l a' l')) ∧ w = w' := by
  have hG := fun w => refGood_any a l 4611686018427387904 ha hl most_in w
  have hH := fun w => refGood_any a' l' 4611686018427387904 ha' hl' most_in w
  by_cases h : Gd a l 4611686018427387904
  · rw [gd_yes h] at hG
    by_cases h' : Gd a' l' 4611686018427387904
    · rw [gd_yes h'] at hH
      rw [hasV_yes h h']
      have HG := Lib.hid hG
      have HH := Lib.hid hH
      obtain ⟨g1, g2, g3⟩ := h
      obtain ⟨k1, k2, k3⟩ := h'
      clear hG hH
      by_cases hx : a ≤ a'
      · have hd : decide (a ≤ a') = true := by simpa using hx
        go_enter Try.func23, Try.ntmps23
        go_wp2_with fail
        refine (HG.out _).mono ?_; rintro e w1 ⟨rfl, rfl⟩
        go_wp2_with fail
        refine (HH.out _).mono ?_; rintro e w1 ⟨rfl, rfl⟩
        go_wp2_with fail
        go_ret
        exact ⟨retB (by simp [hx]), rfl⟩
      · have hd : decide (a ≤ a') = false := by simpa using hx
        go_enter Try.func23, Try.ntmps23
        go_wp2_with fail
        refine (HG.out _).mono ?_; rintro e w1 ⟨rfl, rfl⟩
        go_wp2_with fail
        refine (HH.out _).mono ?_; rintro e w1 ⟨rfl, rfl⟩
        go_wp2_with fail
        go_ret
        exact ⟨retB (by simp; omega), rfl⟩
    · rw [gd_no h'] at hH
      rw [hasV_no2 h']
      have HG := Lib.hid hG
      have HH := Lib.hid hH
      clear hG hH h h'
      go_enter Try.func23, Try.ntmps23
      go_wp2_with fail
      refine (HG.out _).mono ?_; rintro e w1 ⟨rfl, rfl⟩
      go_wp2_with fail
      refine (HH.out _).mono ?_; rintro e w1 ⟨rfl, rfl⟩
      go_wp2_with fail
      go_ret
      exact ⟨retB (by simp), rfl⟩
  · rw [gd_no h] at hG
    rw [hasV_no1 h]
    generalize gdB a' l' 4611686018427387904 = b at *
    have HG := Lib.hid hG
    have HH := Lib.hid hH
    clear hG hH h
    go_enter Try.func23, Try.ntmps23
    go_wp2_with fail
    refine (HG.out _).mono ?_; rintro e w1 ⟨rfl, rfl⟩
    go_wp2_with fail
    refine (HH.out _).mono ?_; rintro e w1 ⟨rfl, rfl⟩
    go_wp2_with fail
    go_ret
    exact ⟨retB (by simp), rfl⟩

end Go.Proofs.Ytokfhaflfaldnaa
