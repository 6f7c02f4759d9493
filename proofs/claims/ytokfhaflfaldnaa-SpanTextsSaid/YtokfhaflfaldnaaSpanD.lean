/- Contracts of layer 5: Between and Has, by package span and by the document. -/
import Derived.Test.YtokfhaflfaldnaaSpanC
namespace Go.Proofs.Ytokfhaflfaldnaa
open Go.ChangeShapes Go.WideShapes Go.ChangeAt Go.RowKit
set_option linter.unusedVariables false
attribute [local go_sem ↓] Go.wp_at_zero Go.wp_at_succ

/-- Two spans, each in a block of its own, one behind the other. -/
def Two (p : Nat) (a l a' l' : Int) (w : World) : Prop :=
  w.cell? ⟨p, 0, none⟩ = some (.int .i64 a) ∧ w.cell? ⟨p, 1, none⟩ = some (.int .i64 l) ∧ w.cell? ⟨p + 1, 0, none⟩ = some (.int .i64 a') ∧ w.cell? ⟨p + 1, 1, none⟩ = some (.int .i64 l') ∧ p + 1 < w.heap.size
theorem Two.below {p B : Nat} {a l a' l' : Int} {w w' : World} (h : Two p a l a' l' w) (hb : Below B w w') (hB : p + 1 < B) : Two p a l a' l' w' := by
  obtain ⟨h1, h2, h3, h4, h5⟩ := h
  exact ⟨(hb.cell (show p < B by omega)).trans h1, (hb.cell (show p < B by omega)).trans h2, (hb.cell (show p + 1 < B by omega)).trans h3, (hb.cell (show p + 1 < B by omega)).trans h4, Nat.lt_of_lt_of_le h5 hb.size⟩
theorem Two.keep {p : Nat} {a l a' l' : Int} {w w' : World} (h : Two p a l a' l' w) (hb : Below w.heap.size w w') : Two p a l a' l' w' := h.below hb h.2.2.2.2
theorem Two.drew {p : Nat} {a l a' l' : Int} {w : World} (h : Two p a l a' l' w) : Two p a l a' l' w.drew := h
theorem Two.far {p g i : Nat} {a l a' l' : Int} {w : World} (h : Two p a l a' l' w) (v : Value) (hg : p + 1 < g) : Two p a l a' l' (w.setCell ⟨g, i, none⟩ v) := by
  obtain ⟨h1, h2, h3, h4, h5⟩ := h
  exact ⟨cell_far h1 (by omega), cell_far h2 (by omega), cell_far h3 (by omega), cell_far h4 (by omega), by simpa [World.setCell] using h5⟩
theorem Two.mk {w : World} {a l a' l' : Int} {t t' : TypeId} : Two w.heap.size a l a' l' ((w.alloc (.cells #[.int .i64 a, .int .i64 l] t)).alloc (.cells #[.int .i64 a', .int .i64 l'] t')) := by
  have h := box_in (w := w.alloc (.cells #[.int .i64 a, .int .i64 l] t)) (v0 := .int .i64 a') (v1 := .int .i64 l') (t := t')
  simp only [World.size_alloc] at h
  exact ⟨(box_in2 _).1, (box_in2 _).2, h.1, h.2, by simp⟩
theorem Two.alloc {p : Nat} {a l a' l' : Int} {w : World} (h : Two p a l a' l' w) (o : Obj) : Two p a l a' l' (w.alloc o) :=
  h.keep ((Below.refl _ _).alloc (Nat.le_refl _) _)

/-- What is held while a region calls: two spans, the result's cells, and the frame. -/
def TwoR (w0 : World) (p : Nat) (a l a' l' : Int) (w : World) : Prop :=
  w.cell? ⟨p, 0, none⟩ = some (.int .i64 a) ∧ w.cell? ⟨p, 1, none⟩ = some (.int .i64 l) ∧ w.cell? ⟨p + 1, 0, none⟩ = some (.int .i64 a') ∧ w.cell? ⟨p + 1, 1, none⟩ = some (.int .i64 l') ∧ p + 1 + 1 < w.heap.size ∧ Below w0.heap.size w0 w
theorem twoR_keep {w0 w1 w2 : World} {p : Nat} {a l a' l' : Int} (hb : Below w1.heap.size w1 w2) (h1 : w1.cell? ⟨p, 0, none⟩ = some (.int .i64 a)) (h2 : w1.cell? ⟨p, 1, none⟩ = some (.int .i64 l)) (h3 : w1.cell? ⟨p + 1, 0, none⟩ = some (.int .i64 a')) (h4 : w1.cell? ⟨p + 1, 1, none⟩ = some (.int .i64 l')) (h5 : p + 1 + 1 < w1.heap.size) (h6 : Below w0.heap.size w0 w1) :
    w2.cell? ⟨p, 0, none⟩ = some (.int .i64 a) ∧ w2.cell? ⟨p, 1, none⟩ = some (.int .i64 l) ∧ w2.cell? ⟨p + 1, 0, none⟩ = some (.int .i64 a') ∧ w2.cell? ⟨p + 1, 1, none⟩ = some (.int .i64 l') ∧ p + 1 + 1 < w2.heap.size ∧ Below w0.heap.size w0 w2 := by
  obtain ⟨k1, k2, k3, k4, k5⟩ := Two.keep ⟨h1, h2, h3, h4, by omega⟩ hb
  exact ⟨k1, k2, k3, k4, Nat.lt_of_lt_of_le h5 hb.size, chain h6 (Nat.le_refl _) hb⟩ 
theorem twoR_set {w0 w1 : World} {p : Nat} {a l a' l' : Int} (v v' : Value) (h1 : w1.cell? ⟨p, 0, none⟩ = some (.int .i64 a)) (h2 : w1.cell? ⟨p, 1, none⟩ = some (.int .i64 l)) (h3 : w1.cell? ⟨p + 1, 0, none⟩ = some (.int .i64 a')) (h4 : w1.cell? ⟨p + 1, 1, none⟩ = some (.int .i64 l')) (h5 : p + 1 + 1 < w1.heap.size) (h6 : Below w0.heap.size w0 w1) (hp : w0.heap.size ≤ p) :
    TwoR w0 p a l a' l' ((w1.setCell ⟨p + 1 + 1, 0, none⟩ v).setCell ⟨p + 1 + 1, 1, none⟩ v') := by
  obtain ⟨k1, k2, k3, k4, k5⟩ := Two.far (Two.far (g := p + 1 + 1) (i := 0) ⟨h1, h2, h3, h4, by omega⟩ v (by omega)) (g := p + 1 + 1) (i := 1) v' (by omega)
  exact ⟨k1, k2, k3, k4, by simpa [World.setCell] using h5, Below.setCell (Below.setCell h6 (show w0.heap.size ≤ p + 1 + 1 by omega) _) (show w0.heap.size ≤ p + 1 + 1 by omega) _⟩

theorem bcell_drew {W w1 : World} (hb : Below W.drew.heap.size W.drew w1) : (∀ b o, b < W.heap.size → w1.cell? ⟨b, o, none⟩ = W.cell? ⟨b, o, none⟩) ∧ (∀ b o, b < W.heap.size → w1.frozen? ⟨b, o, none⟩ = W.frozen? ⟨b, o, none⟩) :=
  ⟨fun b o h => hb.cell (p := ⟨b, o, none⟩) h, fun b o h => hb.frozen (p := ⟨b, o, none⟩) h⟩
theorem Between_arg1 (a l a' l' : Int) (ha : I64 a) (hl : I64 l) (h : ¬ Gd a l 4611686018427387904) (w : World) :
    Calls Try.prog 20 #[.agg #[.int .i64 a, .int .i64 l], .agg #[.int .i64 a', .int .i64 l']] w fun e w' => e = pairV 0 0 2 ∧ Below w.heap.size w w' := by
  have hG := fun w => valid_any a l ha hl w
  rw [gd_no h] at hG
  have HG := Lib.hid hG
  clear hG h
  go_enter Try.func20, Try.ntmps20
  go_wp2_with fail
  refine (HG.out _).mono ?_; rintro e w1 ⟨rfl, b1⟩
  obtain ⟨hc, hf⟩ := bcell b1
  go_wp2_with fail
  have hz := b1.size
  simp at hz
  refine bodyPost_ret (v := .tuple #[.agg #[.int .i64 0, .int .i64 0], .int .i64 2]) (by simp [results, Try.results20, go_sem, hc]) rfl ⟨rfl, ?_⟩
  refine Below.setCell (Below.setCell (below3 b1) ?_ _) ?_ _
  all_goals first | exact past _ _ | exact past2 _

theorem Between_arg2 (a l a' l' : Int) (ha : I64 a) (hl : I64 l) (ha' : I64 a') (hl' : I64 l') (h : Gd a l 4611686018427387904) (h' : ¬ Gd a' l' 4611686018427387904) (w : World) :
    Calls Try.prog 20 #[.agg #[.int .i64 a, .int .i64 l], .agg #[.int .i64 a', .int .i64 l']] w fun e w' => e = pairV 0 0 2 ∧ Below w.heap.size w w' := by
  have hG := fun w => valid_any a l ha hl w
  rw [gd_yes h] at hG
  have hH := fun w => valid_any a' l' ha' hl' w
  rw [gd_no h'] at hH
  have HG := Lib.hid hG
  have HH := Lib.hid hH
  clear hG h hH h'
  go_enter Try.func20, Try.ntmps20
  go_wp2_with fail
  refine (HG.out _).mono ?_; rintro e w1 ⟨rfl, b1⟩
  obtain ⟨hc, hf⟩ := bcell b1
  have hz := b1.size
  simp at hz
  have hb0 : w.heap.size < w1.heap.size := by omega
  have hb1 : w.heap.size + 1 < w1.heap.size := by omega
  have hb2 : w.heap.size + 1 + 1 < w1.heap.size := by omega
  go_wp2_with fail
  refine (HH.out _).mono ?_; rintro e w2 ⟨rfl, b2⟩
  obtain ⟨hc2, hf2⟩ := bcell b2
  have b3 := chain (below3 b1) (Nat.le_refl _) b2
  have hz2 := b2.size
  go_wp2_with fail
  refine bodyPost_ret (v := .tuple #[.agg #[.int .i64 0, .int .i64 0], .int .i64 2]) (by simp [results, Try.results20, go_sem, hc, hc2, hb2]) rfl ⟨rfl, ?_⟩
  refine Below.setCell (Below.setCell b3 ?_ _) ?_ _
  all_goals first | exact past _ _ | exact past2 _

set_option maxHeartbeats 1000000 in
theorem Between_range (a l a' l' : Int) (ha : I64 a) (hl : I64 l) (ha' : I64 a') (hl' : I64 l') (h : Gd a l 4611686018427387904) (h' : Gd a' l' 4611686018427387904) (hx : a' + l' < a) (w : World) :
    Calls Try.prog 20 #[.agg #[.int .i64 a, .int .i64 l], .agg #[.int .i64 a', .int .i64 l']] w fun e w' => e = pairV 0 0 3 ∧ Below w.heap.size w w' := by
  have hG := fun w => valid_any a l ha hl w
  rw [gd_yes h] at hG
  have hH := fun w => valid_any a' l' ha' hl' w
  rw [gd_yes h'] at hH
  have hE := fun w => End_any a' l' ha' hl' w
  rw [end_yes h'] at hE
  have HG := Lib.hid hG
  have HH := Lib.hid hH
  have HE := Lib.hid hE
  clear hG h hH h' hE
  go_enter Try.func20, Try.ntmps20
  go_wp2_with fail
  refine (HG.out _).mono ?_; rintro e w1 ⟨rfl, b1⟩
  obtain ⟨hc, hf⟩ := bcell b1
  have hz := b1.size
  simp at hz
  have hb0 : w.heap.size < w1.heap.size := by omega
  have hb1 : w.heap.size + 1 < w1.heap.size := by omega
  have hb2 : w.heap.size + 1 + 1 < w1.heap.size := by omega
  go_wp2_with fail
  refine (HH.out _).mono ?_; rintro e w2 ⟨rfl, b2⟩
  obtain ⟨hc2, hf2⟩ := bcell b2
  have T2 := (Two.mk.alloc _).keep b1 |>.keep b2
  have hz2 := b2.size
  have hb22 : w.heap.size + 1 + 1 < w2.heap.size := by omega
  have b3 := chain (below3 b1) (Nat.le_refl _) b2
  go_wp2_with fail
  obtain ⟨t1, t2, t3, t4, t5⟩ := T2
  go_region_held3 (fun w' => w'.cell? ⟨w.heap.size, 0, none⟩ = some (.int .i64 a) ∧ w'.cell? ⟨w.heap.size, 1, none⟩ = some (.int .i64 l) ∧ w'.cell? ⟨w.heap.size + 1, 0, none⟩ = some (.int .i64 a') ∧ w'.cell? ⟨w.heap.size + 1, 1, none⟩ = some (.int .i64 l') ∧ w.heap.size + 1 + 1 < w'.heap.size ∧ Below w.heap.size w w')
    (first | exact ⟨t1, t2, t3, t4, hb22, below_drew b3⟩ | (go_split_ands; exact twoR_keep (by assumption) (by assumption) (by assumption) (by assumption) (by assumption) (by assumption) (by assumption)) | go_keep)
    (first | ((with_reducible refine (HE.out _).mono ?_); rintro e w4 ⟨rfl, b4⟩))
  rename_i hHeld
  obtain ⟨s1, s2, s3, s4, s5, s6⟩ := hHeld
  obtain ⟨hc4, hf4⟩ := bcell_drew b4
  go_wp2_with fail
  refine bodyPost_ret (v := .tuple #[.agg #[.int .i64 0, .int .i64 0], .int .i64 3]) (by simp [results, Try.results20, go_sem, hc, hc2, hb2, hc4, hb22]) rfl ⟨rfl, ?_⟩
  refine Below.setCell (Below.setCell s6 ?_ _) ?_ _
  all_goals first | exact past _ _ | exact past2 _

set_option maxHeartbeats 2000000 in
theorem Between_ok (a l a' l' : Int) (ha : I64 a) (hl : I64 l) (ha' : I64 a') (hl' : I64 l') (h : Gd a l 4611686018427387904) (h' : Gd a' l' 4611686018427387904) (hx : a ≤ a' + l') (w : World) :
    Calls Try.prog 20 #[.agg #[.int .i64 a, .int .i64 l], .agg #[.int .i64 a', .int .i64 l']] w fun e w' => e = pairV a (a' + l' - a) 0 ∧ Below w.heap.size w w' := by
  have hG := fun w => valid_any a l ha hl w
  rw [gd_yes h] at hG
  have hH := fun w => valid_any a' l' ha' hl' w
  rw [gd_yes h'] at hH
  have hE := fun w => End_any a' l' ha' hl' w
  rw [end_yes h'] at hE
  have HG := Lib.hid hG
  have HH := Lib.hid hH
  have HE := Lib.hid hE
  have e1 : IntKind.i64.wrap (a' + l' - a) = a' + l' - a := IntWalk.i64_in _ (by unfold Gd at h h'; omega)
  have hd : decide (a' + l' < a) = false := by simpa using hx
  clear hG h hH h' hE
  go_enter Try.func20, Try.ntmps20
  go_wp2_with fail
  refine (HG.out _).mono ?_; rintro e w1 ⟨rfl, b1⟩
  obtain ⟨hc, hf⟩ := bcell b1
  have hz := b1.size
  simp at hz
  have hb0 : w.heap.size < w1.heap.size := by omega
  have hb1 : w.heap.size + 1 < w1.heap.size := by omega
  have hb2 : w.heap.size + 1 + 1 < w1.heap.size := by omega
  go_wp2_with fail
  refine (HH.out _).mono ?_; rintro e w2 ⟨rfl, b2⟩
  obtain ⟨hc2, hf2⟩ := bcell b2
  have T2 := (Two.mk.alloc _).keep b1 |>.keep b2
  have hz2 := b2.size
  have hb22 : w.heap.size + 1 + 1 < w2.heap.size := by omega
  have b3 := chain (below3 b1) (Nat.le_refl _) b2
  go_wp2_with fail
  obtain ⟨t1, t2, t3, t4, t5⟩ := T2
  go_region_held3 (fun w' => w'.cell? ⟨w.heap.size, 0, none⟩ = some (.int .i64 a) ∧ w'.cell? ⟨w.heap.size, 1, none⟩ = some (.int .i64 l) ∧ w'.cell? ⟨w.heap.size + 1, 0, none⟩ = some (.int .i64 a') ∧ w'.cell? ⟨w.heap.size + 1, 1, none⟩ = some (.int .i64 l') ∧ w.heap.size + 1 + 1 < w'.heap.size ∧ Below w.heap.size w w')
    (first | exact ⟨t1, t2, t3, t4, hb22, below_drew b3⟩ | (go_split_ands; exact twoR_keep (by assumption) (by assumption) (by assumption) (by assumption) (by assumption) (by assumption) (by assumption)) | go_keep)
    (first | ((with_reducible refine (HE.out _).mono ?_); rintro e w4 ⟨rfl, b4⟩))
  rename_i hHeld
  obtain ⟨s1, s2, s3, s4, s5, s6⟩ := hHeld
  obtain ⟨hc4, hf4⟩ := bcell_drew b4
  clear t1 t2 t3 t4 t5
  go_wp2_with fail
  go_region_held3 (fun w' => w'.cell? ⟨w.heap.size, 0, none⟩ = some (.int .i64 a) ∧ w'.cell? ⟨w.heap.size, 1, none⟩ = some (.int .i64 l) ∧ w'.cell? ⟨w.heap.size + 1, 0, none⟩ = some (.int .i64 a') ∧ w'.cell? ⟨w.heap.size + 1, 1, none⟩ = some (.int .i64 l') ∧ w.heap.size + 1 + 1 < w'.heap.size ∧ Below w.heap.size w w')
    (first | exact ⟨s1, s2, s3, s4, s5, below_drew s6⟩ | (go_split_ands; exact twoR_keep (by assumption) (by assumption) (by assumption) (by assumption) (by assumption) (by assumption) (by assumption)) | (go_split_ands; exact twoR_set _ _ (by assumption) (by assumption) (by assumption) (by assumption) (by assumption) (by assumption) (Nat.le_refl _)) | go_keep)
    (first | ((with_reducible refine (HE.out _).mono ?_); rintro e w6 ⟨rfl, b6⟩; obtain ⟨hc6, hf6⟩ := bcell_drew b6))
  rename_i hHeld
  have s6 := hHeld.2.2.2.2.2
  go_wp2_with fail
  exact bodyPost_ret (v := .tuple #[.agg #[.int .i64 a, .int .i64 (a' + l' - a)], .int .i64 0]) (by simp [results, Try.results20, go_sem, hc, hc2, hb2, hc4, hb22, hc6, s5]) rfl ⟨rfl, s6⟩

/-- The document's Between: an array of four in its own block. -/
theorem arr4_in {w : World} {v0 v1 v2 v3 : Value} {t : TypeId} : (w.alloc (.cells #[v0, v1, v2, v3] t)).cell? ⟨w.heap.size, 0, none⟩ = some v0 ∧ (w.alloc (.cells #[v0, v1, v2, v3] t)).cell? ⟨w.heap.size, 1, none⟩ = some v1 ∧ (w.alloc (.cells #[v0, v1, v2, v3] t)).cell? ⟨w.heap.size, 2, none⟩ = some v2 ∧ (w.alloc (.cells #[v0, v1, v2, v3] t)).cell? ⟨w.heap.size, 3, none⟩ = some v3 := by
  refine ⟨?_, ?_, ?_, ?_⟩
  all_goals
    rw [cell_of_row _ _ _ _ _ (0, 0) (heap_alloc_new w _)]
    rfl

theorem below_two (w : World) (a b : Obj) : Below w.heap.size w ((w.alloc a).alloc b) := (below_box w a).alloc (by simp) b

theorem refBetween_arg1 (a l a' l' : Int) (ha : I64 a) (hl : I64 l) (ha' : I64 a') (hl' : I64 l') (h : ¬ Gd a l 4611686018427387904) (w : World) :
    Calls Try.prog 21 #[.agg #[.int .i64 a, .int .i64 l, .int .i64 a', .int .i64 l']] w fun e w' => e = pairV 0 0 2 ∧ Below w.heap.size w w' := by
  have HG := Lib.hid (fun w => refGood_any a l 4611686018427387904 ha hl most_in w)
  have HH := Lib.hid (fun w => refGood_any a' l' 4611686018427387904 ha' hl' most_in w)
  have hg := gd_no h
  generalize gdB a' l' 4611686018427387904 = b at *
  rw [hg] at HG
  clear hg h
  go_enter Try.func21, Try.ntmps21
  go_wp2_with fail
  refine (HG.out _).mono ?_; rintro e w1 ⟨rfl, rfl⟩
  go_wp2_with fail
  refine (HH.out _).mono ?_; rintro e w1 ⟨rfl, rfl⟩
  go_wp2_with fail
  refine bodyPost_ret (v := .tuple #[.agg #[.int .i64 0, .int .i64 0], .int .i64 2]) (by simp [results, Try.results21, go_sem]) rfl ⟨rfl, below_two _ _ _⟩

end Go.Proofs.Ytokfhaflfaldnaa
