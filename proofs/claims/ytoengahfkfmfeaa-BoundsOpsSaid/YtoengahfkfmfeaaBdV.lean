/- Layer 11: the walk of the law BoundsOp. -/
import Derived.Test.YtoengahfkfmfeaaBdK
import Derived.Test.YtoengahfkfmfeaaBdJ
import Derived.Deep.RegionHeld3
set_option linter.unusedVariables false
set_option linter.unusedSimpArgs false
namespace Go.Proofs.Ytoengahfkfmfeaa
open Go.ChangeShapes Go.WideShapes Go.ChangeAt Go.RowKit

theorem ops_any (s : ByteArray) (w : World) :
    Calls Try.prog 8 #[.string s] w fun e w' => (∃ cs, w' = w.alloc (.cells cs 9) ∧ cs.size = 18 ∧ ∀ i, i < 18 → ∃ o : ByteArray, cs[i]? = some (.string o)) ∧ e = .returned (.slice (some ⟨w.heap.size, 0, none⟩) 18 18) := by
  go_enter Try.func8, Try.ntmps8
  go_wp2_with fail
  go_ret
  refine ⟨⟨_, rfl, rfl, fun i hi => ?_⟩, rfl⟩
  match i, hi with
  | 0, _ | 1, _ | 2, _ | 3, _ | 4, _ | 5, _ | 6, _ | 7, _ | 8, _ | 9, _ | 10, _ | 11, _ | 12, _ | 13, _ | 14, _ | 15, _ | 16, _ | 17, _ => exact ⟨_, rfl⟩
  | i + 18, h => omega
theorem duo_fst (W : World) (x y : Int) (o : Obj) : Duo ((W.alloc (.cells #[.int .u64 x, .int .u64 y] 25)).alloc o).drew W.heap.size 25 (.int .u64 x) (.int .u64 y) := (Below.heap_alloc _ _ _ (by simp)).trans (World.alloc_heap_new W _)
theorem duo_snd (W : World) (o : Obj) (x y : Int) : Duo ((W.alloc o).alloc (.cells #[.int .u64 x, .int .u64 y] 25)).drew (W.heap.size + 1) 25 (.int .u64 x) (.int .u64 y) := by
  have := World.alloc_heap_new (W.alloc o) (.cells #[.int .u64 x, .int .u64 y] 25)
  rw [World.size_alloc] at this
  exact this
theorem inr_w {a : Int × Int} {n : Int} (h : WR a) (hi : InR n a) : W64 n := ⟨Int.le_trans h.1.1 hi.1, Int.le_trans hi.2 h.2.2⟩
theorem opB_two {s : ByteArray} {a b : Int × Int} {x y : Int} (ha : WR a) (hb : WR b) (hx : InR x a) (hy : InR y b) : (opR s.toList x y).2 = 0 → (opB s.toList a b).isSome = true ∧ ((opB s.toList a b).getD (0, 0)).1 ≤ (opR s.toList x y).1 ∧ (opR s.toList x y).1 ≤ ((opB s.toList a b).getD (0, 0)).2 := fun h => by
  obtain ⟨r, h1, h2⟩ := opB_holds ha hb hx hy (show opR s.toList x y = ((opR s.toList x y).1, 0) from Prod.ext rfl h)
  rw [h1]; exact ⟨rfl, h2.1, h2.2⟩
set_option maxHeartbeats 4000000 in
set_option maxRecDepth 100000 in
theorem BoundsOp_walk (x0 x1 x2 x3 p q : Int) (w : World) (a0 : 0 ≤ x0) (b0 : x0 ≤ 18446744073709551615) (a1 : 0 ≤ x1) (b1 : x1 ≤ 18446744073709551615) (a2 : 0 ≤ x2) (b2 : x2 ≤ 18446744073709551615) (a3 : 0 ≤ x3) (b3 : x3 ≤ 18446744073709551615) (a4 : 0 ≤ p) (b4 : p ≤ 18446744073709551615) (a5 : 0 ≤ q) (b5 : q ≤ 18446744073709551615) :
    Calls Try.prog 6 #[.agg #[.int .u64 x0, .int .u64 x1, .int .u64 x2, .int .u64 x3], .int .u64 p, .int .u64 q] w fun e w' => e = .returned (.bool true) ∧ Below w.heap.size w w' := by
  have HW := Lib.hid fun w' => wakes_any w'
  have HA := Lib.hid (show WR (min x0 x1, max x0 x1) from ⟨⟨by show 0 ≤ min x0 x1; omega, by show min x0 x1 ≤ _; omega⟩, ⟨by show 0 ≤ max x0 x1; omega, by show max x0 x1 ≤ _; omega⟩⟩)
  have HB := Lib.hid (show WR (min x2 x3, max x2 x3) from ⟨⟨by show 0 ≤ min x2 x3; omega, by show min x2 x3 ≤ _; omega⟩, ⟨by show 0 ≤ max x2 x3; omega, by show max x2 x3 ≤ _; omega⟩⟩)
  have HP := Lib.hid (show InR (max (min x0 x1) (min p (max x0 x1))) (min x0 x1, max x0 x1) from ⟨by show min x0 x1 ≤ _; omega, by show _ ≤ max x0 x1; omega⟩)
  have HQ := Lib.hid (show InR (max (min x2 x3) (min q (max x2 x3))) (min x2 x3, max x2 x3) from ⟨by show min x2 x3 ≤ _; omega, by show _ ≤ max x2 x3; omega⟩)
  have hF : Four (w.alloc (.cells #[.int .u64 x0, .int .u64 x1, .int .u64 x2, .int .u64 x3] 23)) w.heap.size 23 (.int .u64 x0) (.int .u64 x1) (.int .u64 x2) (.int .u64 x3) := World.alloc_heap_new _ _
  obtain ⟨c0, c1, c2, c3⟩ := hF.cells
  clear a0 b0 a1 b1 a2 b2 a3 b3 a4 b4 a5 b5
  go_enter Try.func6, Try.ntmps6
  go_upto_region 1 with fail
  have hs0 : (w.alloc (.cells #[.int .u64 x0, .int .u64 x1, .int .u64 x2, .int .u64 x3] 23)).heap.size = w.heap.size + 1 := by simp
  have hB0 := (Below.refl w.heap.size w).alloc (Nat.le_refl _) (.cells #[.int .u64 x0, .int .u64 x1, .int .u64 x2, .int .u64 x3] 23)
  generalize w.alloc (.cells #[.int .u64 x0, .int .u64 x1, .int .u64 x2, .int .u64 x3] 23) = W at *
  have KS : Hid (∀ w', Below (w.heap.size + 1) W w' → (fun w' => w'.cell? ⟨w.heap.size, 0, none⟩ = some (.int .u64 x0) ∧ w'.cell? ⟨w.heap.size, 1, none⟩ = some (.int .u64 x1) ∧ w'.cell? ⟨w.heap.size, 2, none⟩ = some (.int .u64 x2) ∧ w'.cell? ⟨w.heap.size, 3, none⟩ = some (.int .u64 x3) ∧ Below (w.heap.size + 1) W w') w') := Lib.hid fun w' hb => ⟨(hb.cell (p := ⟨w.heap.size, 0, none⟩) (Nat.lt_succ_self _)).trans c0, (hb.cell (p := ⟨w.heap.size, 1, none⟩) (Nat.lt_succ_self _)).trans c1, (hb.cell (p := ⟨w.heap.size, 2, none⟩) (Nat.lt_succ_self _)).trans c2, (hb.cell (p := ⟨w.heap.size, 3, none⟩) (Nat.lt_succ_self _)).trans c3, hb⟩
  have S0 := KS.out W (Below.refl _ _)
  have KD : Hid (∀ w', (fun w' => w'.cell? ⟨w.heap.size, 0, none⟩ = some (.int .u64 x0) ∧ w'.cell? ⟨w.heap.size, 1, none⟩ = some (.int .u64 x1) ∧ w'.cell? ⟨w.heap.size, 2, none⟩ = some (.int .u64 x2) ∧ w'.cell? ⟨w.heap.size, 3, none⟩ = some (.int .u64 x3) ∧ Below (w.heap.size + 1) W w') w' → (fun w' => w'.cell? ⟨w.heap.size, 0, none⟩ = some (.int .u64 x0) ∧ w'.cell? ⟨w.heap.size, 1, none⟩ = some (.int .u64 x1) ∧ w'.cell? ⟨w.heap.size, 2, none⟩ = some (.int .u64 x2) ∧ w'.cell? ⟨w.heap.size, 3, none⟩ = some (.int .u64 x3) ∧ Below (w.heap.size + 1) W w') w'.drew) := Lib.hid fun w' h => KS.out _ h.2.2.2.2.drew
  have KA : Hid (∀ w' o, (fun w' => w'.cell? ⟨w.heap.size, 0, none⟩ = some (.int .u64 x0) ∧ w'.cell? ⟨w.heap.size, 1, none⟩ = some (.int .u64 x1) ∧ w'.cell? ⟨w.heap.size, 2, none⟩ = some (.int .u64 x2) ∧ w'.cell? ⟨w.heap.size, 3, none⟩ = some (.int .u64 x3) ∧ Below (w.heap.size + 1) W w') w' → (fun w' => w'.cell? ⟨w.heap.size, 0, none⟩ = some (.int .u64 x0) ∧ w'.cell? ⟨w.heap.size, 1, none⟩ = some (.int .u64 x1) ∧ w'.cell? ⟨w.heap.size, 2, none⟩ = some (.int .u64 x2) ∧ w'.cell? ⟨w.heap.size, 3, none⟩ = some (.int .u64 x3) ∧ Below (w.heap.size + 1) W w') (w'.alloc o)) := Lib.hid fun w' o h => KS.out _ (h.2.2.2.2.alloc (by have := h.2.2.2.2.size; omega) _)
  have KE : Hid (∀ w' g u v, w.heap.size + 1 ≤ g → (fun w' => w'.cell? ⟨w.heap.size, 0, none⟩ = some (.int .u64 x0) ∧ w'.cell? ⟨w.heap.size, 1, none⟩ = some (.int .u64 x1) ∧ w'.cell? ⟨w.heap.size, 2, none⟩ = some (.int .u64 x2) ∧ w'.cell? ⟨w.heap.size, 3, none⟩ = some (.int .u64 x3) ∧ Below (w.heap.size + 1) W w') w' → (fun w' => w'.cell? ⟨w.heap.size, 0, none⟩ = some (.int .u64 x0) ∧ w'.cell? ⟨w.heap.size, 1, none⟩ = some (.int .u64 x1) ∧ w'.cell? ⟨w.heap.size, 2, none⟩ = some (.int .u64 x2) ∧ w'.cell? ⟨w.heap.size, 3, none⟩ = some (.int .u64 x3) ∧ Below (w.heap.size + 1) W w') ((w'.setCell ⟨g, 0, none⟩ u).setCell ⟨g, 1, none⟩ v)) := Lib.hid fun w' g u v hg h => KS.out _ ((h.2.2.2.2.setCell (p := ⟨g, 0, none⟩) hg _).setCell (p := ⟨g, 1, none⟩) hg _)
  refine wp_region_noPanic ?_
  refine wp_region_held_drew (S := (fun w' => w'.cell? ⟨w.heap.size, 0, none⟩ = some (.int .u64 x0) ∧ w'.cell? ⟨w.heap.size, 1, none⟩ = some (.int .u64 x1) ∧ w'.cell? ⟨w.heap.size, 2, none⟩ = some (.int .u64 x2) ∧ w'.cell? ⟨w.heap.size, 3, none⟩ = some (.int .u64 x3) ∧ Below (w.heap.size + 1) W w')) (by kernel_rfl) (KD.out _ S0) (fun hHeld => ?_)
  refine wpAnyH_take (i := 0) (oi := ?oi1) (v := (.pointer (some ⟨w.heap.size, 0, none⟩))) ?hi1 (by kernel_rfl) (by kernel_rfl) (by kernel_rfl) (fun _ _ _ h => h) ?hy1 (by assumption) ?rest1
  case hi1 => (simp only [List.getElem?_toArray, List.getElem?_cons_succ, List.getElem?_cons_zero]; rfl)
  case hy1 => exact Or.inl ⟨by rfl, fun w' hS => by go_simp⟩
  try simp only [Act.put, List.setIfInBounds_toArray, List.set_cons_zero, List.set_cons_succ]
  refine wpAnyH_take (i := 1) (oi := ?oi2) (v := (.int .u64 x0)) ?hi2 (by kernel_rfl) (by kernel_rfl) (by kernel_rfl) (fun _ _ _ h => h) ?hy2 (by assumption) ?rest2
  case hi2 => (simp only [List.getElem?_toArray, List.getElem?_cons_succ, List.getElem?_cons_zero]; rfl)
  case hy2 => exact Or.inl ⟨by rfl, fun w' hS => by have hp := hS.1; go_simp⟩
  try simp only [Act.put, List.setIfInBounds_toArray, List.set_cons_zero, List.set_cons_succ]
  refine wpAnyH_take (i := 2) (oi := ?oi3) (v := (.pointer (some ⟨w.heap.size, 1, none⟩))) ?hi3 (by kernel_rfl) (by kernel_rfl) (by kernel_rfl) (fun _ _ _ h => h) ?hy3 (by assumption) ?rest3
  case hi3 => (simp only [List.getElem?_toArray, List.getElem?_cons_succ, List.getElem?_cons_zero]; rfl)
  case hy3 => exact Or.inl ⟨by rfl, fun w' hS => by go_simp⟩
  try simp only [Act.put, List.setIfInBounds_toArray, List.set_cons_zero, List.set_cons_succ]
  refine wpAnyH_take (i := 3) (oi := ?oi4) (v := (.int .u64 x1)) ?hi4 (by kernel_rfl) (by kernel_rfl) (by kernel_rfl) (fun _ _ _ h => h) ?hy4 (by assumption) ?rest4
  case hi4 => (simp only [List.getElem?_toArray, List.getElem?_cons_succ, List.getElem?_cons_zero]; rfl)
  case hy4 => exact Or.inl ⟨by rfl, fun w' hS => by have hp := hS.2.1; go_simp⟩
  try simp only [Act.put, List.setIfInBounds_toArray, List.set_cons_zero, List.set_cons_succ]
  refine wpAnyH_take (i := 4) (oi := ?oi5) (v := (.int .u64 (min x0 x1))) ?hi5 (by kernel_rfl) (by kernel_rfl) (by kernel_rfl) (fun _ _ _ h => h) ?hy5 (by assumption) ?rest5
  case hi5 => (simp only [List.getElem?_toArray, List.getElem?_cons_succ, List.getElem?_cons_zero]; rfl)
  case hy5 => exact Or.inl ⟨by rfl, fun w' hS => by go_simp⟩
  try simp only [Act.put, List.setIfInBounds_toArray, List.set_cons_zero, List.set_cons_succ]
  refine wpAnyH_take (i := 5) (oi := ?oi6) (v := (.pointer (some ⟨w.heap.size, 0, none⟩))) ?hi6 (by kernel_rfl) (by kernel_rfl) (by kernel_rfl) (fun _ _ _ h => h) ?hy6 (by assumption) ?rest6
  case hi6 => (simp only [List.getElem?_toArray, List.getElem?_cons_succ, List.getElem?_cons_zero]; rfl)
  case hy6 => exact Or.inl ⟨by rfl, fun w' hS => by go_simp⟩
  try simp only [Act.put, List.setIfInBounds_toArray, List.set_cons_zero, List.set_cons_succ]
  refine wpAnyH_take (i := 6) (oi := ?oi7) (v := (.int .u64 x0)) ?hi7 (by kernel_rfl) (by kernel_rfl) (by kernel_rfl) (fun _ _ _ h => h) ?hy7 (by assumption) ?rest7
  case hi7 => (simp only [List.getElem?_toArray, List.getElem?_cons_succ, List.getElem?_cons_zero]; rfl)
  case hy7 => exact Or.inl ⟨by rfl, fun w' hS => by have hp := hS.1; go_simp⟩
  try simp only [Act.put, List.setIfInBounds_toArray, List.set_cons_zero, List.set_cons_succ]
  refine wpAnyH_take (i := 7) (oi := ?oi8) (v := (.pointer (some ⟨w.heap.size, 1, none⟩))) ?hi8 (by kernel_rfl) (by kernel_rfl) (by kernel_rfl) (fun _ _ _ h => h) ?hy8 (by assumption) ?rest8
  case hi8 => (simp only [List.getElem?_toArray, List.getElem?_cons_succ, List.getElem?_cons_zero]; rfl)
  case hy8 => exact Or.inl ⟨by rfl, fun w' hS => by go_simp⟩
  try simp only [Act.put, List.setIfInBounds_toArray, List.set_cons_zero, List.set_cons_succ]
  refine wpAnyH_take (i := 8) (oi := ?oi9) (v := (.int .u64 x1)) ?hi9 (by kernel_rfl) (by kernel_rfl) (by kernel_rfl) (fun _ _ _ h => h) ?hy9 (by assumption) ?rest9
  case hi9 => (simp only [List.getElem?_toArray, List.getElem?_cons_succ, List.getElem?_cons_zero]; rfl)
  case hy9 => exact Or.inl ⟨by rfl, fun w' hS => by have hp := hS.2.1; go_simp⟩
  try simp only [Act.put, List.setIfInBounds_toArray, List.set_cons_zero, List.set_cons_succ]
  refine wpAnyH_take (i := 9) (oi := ?oi10) (v := (.int .u64 (max x0 x1))) ?hi10 (by kernel_rfl) (by kernel_rfl) (by kernel_rfl) (fun _ _ _ h => h) ?hy10 (by assumption) ?rest10
  case hi10 => (simp only [List.getElem?_toArray, List.getElem?_cons_succ, List.getElem?_cons_zero]; rfl)
  case hy10 => exact Or.inl ⟨by rfl, fun w' hS => by go_simp⟩
  try simp only [Act.put, List.setIfInBounds_toArray, List.set_cons_zero, List.set_cons_succ]
  refine wpAnyH_take (i := 10) (oi := ?oi11) (v := (.agg #[.int .u64 (min x0 x1), .int .u64 (max x0 x1)])) ?hi11 (by kernel_rfl) (by kernel_rfl) (by kernel_rfl) (fun _ _ _ h => h) ?hy11 (by assumption) ?rest11
  case hi11 => (simp only [List.getElem?_toArray, List.getElem?_cons_succ, List.getElem?_cons_zero]; rfl)
  case hy11 => exact Or.inl ⟨by rfl, fun w' hS => by go_simp⟩
  try simp only [Act.put, List.setIfInBounds_toArray, List.set_cons_zero, List.set_cons_succ]
  refine wpAnyH_take (i := 11) (oi := ?oi12) (v := (.pointer (some ⟨w.heap.size, 2, none⟩))) ?hi12 (by kernel_rfl) (by kernel_rfl) (by kernel_rfl) (fun _ _ _ h => h) ?hy12 (by assumption) ?rest12
  case hi12 => (simp only [List.getElem?_toArray, List.getElem?_cons_succ, List.getElem?_cons_zero]; rfl)
  case hy12 => exact Or.inl ⟨by rfl, fun w' hS => by go_simp⟩
  try simp only [Act.put, List.setIfInBounds_toArray, List.set_cons_zero, List.set_cons_succ]
  refine wpAnyH_take (i := 12) (oi := ?oi13) (v := (.int .u64 x2)) ?hi13 (by kernel_rfl) (by kernel_rfl) (by kernel_rfl) (fun _ _ _ h => h) ?hy13 (by assumption) ?rest13
  case hi13 => (simp only [List.getElem?_toArray, List.getElem?_cons_succ, List.getElem?_cons_zero]; rfl)
  case hy13 => exact Or.inl ⟨by rfl, fun w' hS => by have hp := hS.2.2.1; go_simp⟩
  try simp only [Act.put, List.setIfInBounds_toArray, List.set_cons_zero, List.set_cons_succ]
  refine wpAnyH_take (i := 13) (oi := ?oi14) (v := (.pointer (some ⟨w.heap.size, 3, none⟩))) ?hi14 (by kernel_rfl) (by kernel_rfl) (by kernel_rfl) (fun _ _ _ h => h) ?hy14 (by assumption) ?rest14
  case hi14 => (simp only [List.getElem?_toArray, List.getElem?_cons_succ, List.getElem?_cons_zero]; rfl)
  case hy14 => exact Or.inl ⟨by rfl, fun w' hS => by go_simp⟩
  try simp only [Act.put, List.setIfInBounds_toArray, List.set_cons_zero, List.set_cons_succ]
  refine wpAnyH_take (i := 14) (oi := ?oi15) (v := (.int .u64 x3)) ?hi15 (by kernel_rfl) (by kernel_rfl) (by kernel_rfl) (fun _ _ _ h => h) ?hy15 (by assumption) ?rest15
  case hi15 => (simp only [List.getElem?_toArray, List.getElem?_cons_succ, List.getElem?_cons_zero]; rfl)
  case hy15 => exact Or.inl ⟨by rfl, fun w' hS => by have hp := hS.2.2.2.1; go_simp⟩
  try simp only [Act.put, List.setIfInBounds_toArray, List.set_cons_zero, List.set_cons_succ]
  refine wpAnyH_take (i := 15) (oi := ?oi16) (v := (.int .u64 (min x2 x3))) ?hi16 (by kernel_rfl) (by kernel_rfl) (by kernel_rfl) (fun _ _ _ h => h) ?hy16 (by assumption) ?rest16
  case hi16 => (simp only [List.getElem?_toArray, List.getElem?_cons_succ, List.getElem?_cons_zero]; rfl)
  case hy16 => exact Or.inl ⟨by rfl, fun w' hS => by go_simp⟩
  try simp only [Act.put, List.setIfInBounds_toArray, List.set_cons_zero, List.set_cons_succ]
  refine wpAnyH_take (i := 16) (oi := ?oi17) (v := (.pointer (some ⟨w.heap.size, 2, none⟩))) ?hi17 (by kernel_rfl) (by kernel_rfl) (by kernel_rfl) (fun _ _ _ h => h) ?hy17 (by assumption) ?rest17
  case hi17 => (simp only [List.getElem?_toArray, List.getElem?_cons_succ, List.getElem?_cons_zero]; rfl)
  case hy17 => exact Or.inl ⟨by rfl, fun w' hS => by go_simp⟩
  try simp only [Act.put, List.setIfInBounds_toArray, List.set_cons_zero, List.set_cons_succ]
  refine wpAnyH_take (i := 17) (oi := ?oi18) (v := (.int .u64 x2)) ?hi18 (by kernel_rfl) (by kernel_rfl) (by kernel_rfl) (fun _ _ _ h => h) ?hy18 (by assumption) ?rest18
  case hi18 => (simp only [List.getElem?_toArray, List.getElem?_cons_succ, List.getElem?_cons_zero]; rfl)
  case hy18 => exact Or.inl ⟨by rfl, fun w' hS => by have hp := hS.2.2.1; go_simp⟩
  try simp only [Act.put, List.setIfInBounds_toArray, List.set_cons_zero, List.set_cons_succ]
  refine wpAnyH_take (i := 18) (oi := ?oi19) (v := (.pointer (some ⟨w.heap.size, 3, none⟩))) ?hi19 (by kernel_rfl) (by kernel_rfl) (by kernel_rfl) (fun _ _ _ h => h) ?hy19 (by assumption) ?rest19
  case hi19 => (simp only [List.getElem?_toArray, List.getElem?_cons_succ, List.getElem?_cons_zero]; rfl)
  case hy19 => exact Or.inl ⟨by rfl, fun w' hS => by go_simp⟩
  try simp only [Act.put, List.setIfInBounds_toArray, List.set_cons_zero, List.set_cons_succ]
  refine wpAnyH_take (i := 19) (oi := ?oi20) (v := (.int .u64 x3)) ?hi20 (by kernel_rfl) (by kernel_rfl) (by kernel_rfl) (fun _ _ _ h => h) ?hy20 (by assumption) ?rest20
  case hi20 => (simp only [List.getElem?_toArray, List.getElem?_cons_succ, List.getElem?_cons_zero]; rfl)
  case hy20 => exact Or.inl ⟨by rfl, fun w' hS => by have hp := hS.2.2.2.1; go_simp⟩
  try simp only [Act.put, List.setIfInBounds_toArray, List.set_cons_zero, List.set_cons_succ]
  refine wpAnyH_take (i := 20) (oi := ?oi21) (v := (.int .u64 (max x2 x3))) ?hi21 (by kernel_rfl) (by kernel_rfl) (by kernel_rfl) (fun _ _ _ h => h) ?hy21 (by assumption) ?rest21
  case hi21 => (simp only [List.getElem?_toArray, List.getElem?_cons_succ, List.getElem?_cons_zero]; rfl)
  case hy21 => exact Or.inl ⟨by rfl, fun w' hS => by go_simp⟩
  try simp only [Act.put, List.setIfInBounds_toArray, List.set_cons_zero, List.set_cons_succ]
  refine wpAnyH_take (i := 21) (oi := ?oi22) (v := (.agg #[.int .u64 (min x2 x3), .int .u64 (max x2 x3)])) ?hi22 (by kernel_rfl) (by kernel_rfl) (by kernel_rfl) (fun _ _ _ h => h) ?hy22 (by assumption) ?rest22
  case hi22 => (simp only [List.getElem?_toArray, List.getElem?_cons_succ, List.getElem?_cons_zero]; rfl)
  case hy22 => exact Or.inl ⟨by rfl, fun w' hS => by go_simp⟩
  try simp only [Act.put, List.setIfInBounds_toArray, List.set_cons_zero, List.set_cons_succ]
  refine wpAnyH_ready (rs := [22, 23]) (by kernel_rfl) (by simp) ?_
  refine AllReadyH.cons (o := ?oo23_0) ?hi23_0 (fun K hK => ?_) (AllReadyH.cons (o := ?oo23_1) ?hi23_1 (fun K hK => ?_) AllReadyH.nil)
  case hi23_0 => (simp only [List.getElem?_toArray, List.getElem?_cons_succ, List.getElem?_cons_zero]; rfl)
  case hi23_1 => (simp only [List.getElem?_toArray, List.getElem?_cons_succ, List.getElem?_cons_zero]; rfl)
  ·
    go_simp
    refine hK.out _ _ (by refine KS.out _ ?_; repeat (first | exact Below.refl _ _ | refine Below.drew ?_ | (refine Below.alloc ?_ (by first | omega | (simp; omega)) _) | (refine Below.setCell ?_ (by first | omega | (simp; omega)) _))) (fun hHeld => ?_)
    clear hK K
    try simp only [Act.put, List.setIfInBounds_toArray, List.set_cons_zero, List.set_cons_succ]
    refine wpAnyH_ready (rs := [23]) (by kernel_rfl) (by simp) ?_
    refine AllReadyH.cons (o := ?oo24_0) ?hi24_0 (fun K hK => ?_) AllReadyH.nil
    case hi24_0 => (simp only [List.getElem?_toArray, List.getElem?_cons_succ, List.getElem?_cons_zero]; rfl)
    go_simp
    refine hK.out _ _ (by refine KS.out _ ?_; repeat (first | exact Below.refl _ _ | refine Below.drew ?_ | (refine Below.alloc ?_ (by first | omega | (simp; omega)) _) | (refine Below.setCell ?_ (by first | omega | (simp; omega)) _))) (fun hHeld => ?_)
    clear hK K
    try simp only [Act.put, List.setIfInBounds_toArray, List.set_cons_zero, List.set_cons_succ]
    refine wpAnyH_ready (rs := [24]) (by kernel_rfl) (by simp) ?_
    refine AllReadyH.cons (o := ?oo25_0) ?hi25_0 (fun K hK => ?_) AllReadyH.nil
    case hi25_0 => (simp only [List.getElem?_toArray, List.getElem?_cons_succ, List.getElem?_cons_zero]; rfl)
    go_simp
    refine hK.out _ _ (by refine KS.out _ ?_; repeat (first | exact Below.refl _ _ | refine Below.drew ?_ | (refine Below.alloc ?_ (by first | omega | (simp; omega)) _) | (refine Below.setCell ?_ (by first | omega | (simp; omega)) _))) (fun hHeld => ?_)
    clear hK K
    try simp only [Act.put, List.setIfInBounds_toArray, List.set_cons_zero, List.set_cons_succ]
    refine wpAnyH_ready (rs := [25]) (by kernel_rfl) (by simp) ?_
    refine AllReadyH.cons (o := ?oo26_0) ?hi26_0 (fun K hK => ?_) AllReadyH.nil
    case hi26_0 => (simp only [List.getElem?_toArray, List.getElem?_cons_succ, List.getElem?_cons_zero]; rfl)
    go_simp
    refine hK.out _ _ (by refine KS.out _ ?_; repeat (first | exact Below.refl _ _ | refine Below.drew ?_ | (refine Below.alloc ?_ (by first | omega | (simp; omega)) _) | (refine Below.setCell ?_ (by first | omega | (simp; omega)) _))) (fun hHeld => ?_)
    clear hK K
    try simp only [Act.put, List.setIfInBounds_toArray, List.set_cons_zero, List.set_cons_succ]
    refine wpAnyH_done (by kernel_rfl) ?_ _
    refine NoPanic.normal ?_
    have D7 : Hid (Duo (((W.alloc (.cells #[.int .u64 (min x0 x1), .int .u64 (max x0 x1)] 25)).alloc (.cells #[.int .u64 (min x2 x3), .int .u64 (max x2 x3)] 25)).drew) (w.heap.size + 1) 25 (.int .u64 (min x0 x1)) (.int .u64 (max x0 x1))) := Lib.hid (by rw [← hs0]; exact duo_fst W (min x0 x1) (max x0 x1) (.cells #[.int .u64 (min x2 x3), .int .u64 (max x2 x3)] 25))
    have D8 : Hid (Duo (((W.alloc (.cells #[.int .u64 (min x0 x1), .int .u64 (max x0 x1)] 25)).alloc (.cells #[.int .u64 (min x2 x3), .int .u64 (max x2 x3)] 25)).drew) (w.heap.size + 1 + 1) 25 (.int .u64 (min x2 x3)) (.int .u64 (max x2 x3))) := Lib.hid (by rw [← hs0]; exact duo_snd W (.cells #[.int .u64 (min x0 x1), .int .u64 (max x0 x1)] 25) (min x2 x3) (max x2 x3))
    have HB1 : Hid (Below w.heap.size w (((W.alloc (.cells #[.int .u64 (min x0 x1), .int .u64 (max x0 x1)] 25)).alloc (.cells #[.int .u64 (min x2 x3), .int .u64 (max x2 x3)] 25)).drew)) := Lib.hid (((hB0.alloc (by omega) _).alloc (by simp; omega) _).drew)
    clear hHeld KS S0 KD KA KE hB0 hF hs0 c0 c1 c2 c3
    generalize ((W.alloc (.cells #[.int .u64 (min x0 x1), .int .u64 (max x0 x1)] 25)).alloc (.cells #[.int .u64 (min x2 x3), .int .u64 (max x2 x3)] 25)).drew = W1 at *
    have HPQ := Lib.hid (And.intro HP.out HQ.out)
    generalize min x0 x1 = al at *
    generalize max x0 x1 = ah at *
    generalize min x2 x3 = bl at *
    generalize max x2 x3 = bh at *
    have d0 := D7.out.c0
    have d1 := D7.out.c1
    have e0 := D8.out.c0
    have e1 := D8.out.c1
    go_upto_region 2 with fail
    go_quiet (fail)
    have D7 : Hid (Duo (W1.drewN nq) (w.heap.size + 1) 25 (.int .u64 al) (.int .u64 ah)) := D7
    have D8 : Hid (Duo (W1.drewN nq) (w.heap.size + 1 + 1) 25 (.int .u64 bl) (.int .u64 bh)) := D8
    replace HB1 := Lib.hid (bdrewN HB1.out nq)
    clear d0 d1 e0 e1
    generalize W1.drewN nq = W1 at *
    generalize max al (min p ah) = pp at *
    generalize max bl (min q bh) = qq at *
    go_upto_region 4 with (go_at_call 8; refine (ops_any _ _).mono ?_; rintro e w2 ⟨⟨cs, rfl, hsz, hcs⟩, rfl⟩)
    have HC : Hid (∀ i, i < 18 → ∃ o : ByteArray, (W1.alloc (.cells cs 9)).cell? ⟨W1.heap.size, i, none⟩ = some (.string o)) := Lib.hid fun i hi => by
      obtain ⟨o, ho⟩ := hcs i hi
      exact ⟨o, by rw [cell_of_row _ _ _ _ _ (0, 0) (World.alloc_heap_new W1 _)]; exact ho⟩
    have hlt : W1.heap.size < (W1.alloc (.cells cs 9)).heap.size := by simp
    replace D7 := Lib.hid (Duo.keep D7.out ((Below.refl W1.heap.size W1).alloc (Nat.le_refl _) (.cells cs 9)) D7.out.lt)
    replace D8 := Lib.hid (Duo.keep D8.out ((Below.refl W1.heap.size W1).alloc (Nat.le_refl _) (.cells cs 9)) D8.out.lt)
    replace HB1 := Lib.hid (HB1.out.alloc HB1.out.size (.cells cs 9))
    clear hsz hcs
    generalize hob : W1.heap.size = ob at *
    generalize W1.alloc (.cells cs 9) = W2 at *
    go_loopw [54] (fun s54 wr => ∃ (i : Nat), s54 = .int .i64 i ∧ i ≤ 18 ∧ Below W2.heap.size W2 wr) (fun s54 _ => 18 - (intOf s54).toNat)
    case atStart => exact ⟨0, rfl, by omega, Below.refl _ _⟩
    case round =>
      obtain ⟨i, rfl, hin, hB⟩ := hrel
      have D7' := Duo.keep D7.out hB D7.out.lt
      have D8' := Duo.keep D8.out hB D8.out.lt
      have d0 := D7'.c0
      have d1 := D7'.c1
      have e0 := D8'.c0
      have e1 := D8'.c1
      have HB2 := Lib.hid (HB1.out.trans (hB.mono HB1.out.size))
      have HBr := Lib.hid hB
      have D7' := Lib.hid D7'
      have D8' := Lib.hid D8'
      by_cases hi2 : i < 18
      · have hi2' : (i : Int) < 18 := by omega
        obtain ⟨o, ho⟩ := HC.out i hi2
        have hoc := (hB.cell (p := ⟨ob, i, none⟩) hlt).trans ho
        clear hB ho
        have L := Lib.hid (opB_two (s := o) HA.out HB.out HPQ.out.1 HPQ.out.2)
        have CO : Hid (∀ w', Calls Try.prog 9 #[.string o, .agg #[.int .u64 al, .int .u64 ah], .agg #[.int .u64 bl, .int .u64 bh]] w' fun e w'' => e = .returned (.tuple #[.agg #[.int .u64 ((opB o.toList (al, ah) (bl, bh)).getD (0, 0)).1, .int .u64 ((opB o.toList (al, ah) (bl, bh)).getD (0, 0)).2], .bool (opB o.toList (al, ah) (bl, bh)).isSome]) ∧ Below w'.heap.size w' w'') := Lib.hid fun w' => bOp_any o (al, ah) (bl, bh) HA.out HB.out w'
        have CW : Hid (∀ w', Calls Try.prog 22 #[.string o, .int .u64 pp, .int .u64 qq] w' fun e w'' => e = .returned (.tuple #[.int .u64 (opR o.toList pp qq).1, .int .i64 (opR o.toList pp qq).2]) ∧ w' = w'') := Lib.hid fun w' => Op_any o pp qq (inr_w HA.out HPQ.out.1) (inr_w HB.out HPQ.out.2) w'
        generalize (opB o.toList (al, ah) (bl, bh)).isSome = bb at CO L
        generalize ((opB o.toList (al, ah) (bl, bh)).getD (0, 0)).1 = u1 at CO L
        generalize ((opB o.toList (al, ah) (bl, bh)).getD (0, 0)).2 = u2 at CO L
        generalize (opR o.toList pp qq).1 = rn at CW L
        generalize (opR o.toList pp qq).2 = re at CW L
        go_upto_region 7 with (go_at_call 9; refine (CO.out _).mono ?_; rintro e w3 ⟨rfl, hb3⟩; have HB3 := Lib.hid (hb3.alloc hb3.size (.cells #[.int .u64 u1, .int .u64 u2] 25)); have D9 := Lib.hid (show Duo (w3.alloc (.cells #[.int .u64 u1, .int .u64 u2] 25)) w3.heap.size 25 (.int .u64 u1) (.int .u64 u2) from World.alloc_heap_new _ _))
        generalize w3.alloc (.cells #[.int .u64 u1, .int .u64 u2] 25) = W3 at *
        clear hb3 CO d0 d1 e0 e1 hoc
        have HBx := Lib.hid (HBr.out.trans (HB3.out.mono HBr.out.size))
        have d0 := D9.out.c0
        have d1 := D9.out.c1
        by_cases hre : re = 0
        · subst hre
          obtain ⟨rfl, h1, h2⟩ := L.out rfl
          have HH : Hid (∀ w', Calls Try.prog 14 #[.agg #[.int .u64 u1, .int .u64 u2], .int .u64 rn] w' fun q w'' => q = .returned (.bool true) ∧ Below w'.heap.size w' w'') := Lib.hid fun w' => by
            have := Has_any u1 u2 rn w'
            rw [decide_eq_true h1, decide_eq_true h2] at this
            exact this
          clear h1 h2
          go_wp2_with (first
            | (go_at_call 22; refine (CW.out _).mono ?_; rintro e w4 ⟨rfl, rfl⟩)
            | (go_at_call 14; refine (HH.out _).mono ?_; rintro e w5 ⟨rfl, hb5⟩; have HBy := Lib.hid (HBx.out.trans (hb5.mono HBx.out.size)); clear hb5))
          exact ⟨⟨i + 1, by go_num, by omega, HBy.out⟩, by simp [intOf]; omega⟩
        · have hrb : (re == 0) = false := by simpa using hre
          clear hre
          go_wp2_with (go_at_call 22; refine (CW.out _).mono ?_; rintro e w4 ⟨rfl, rfl⟩)
          exact ⟨⟨i + 1, by go_num, by omega, HBx.out⟩, by simp [intOf]; omega⟩
      · obtain rfl : i = 18 := by omega
        clear hB
        obtain ⟨⟨h1, h2⟩, h3, h4⟩ := HPQ.out
        have HH : Hid (∀ n, n = pp ∨ n = qq → ∀ w', Calls Try.prog 14 #[.agg #[.int .u64 (min al bl), .int .u64 (max ah bh)], .int .u64 n] w' fun q w'' => q = .returned (.bool true) ∧ Below w'.heap.size w' w'') := Lib.hid fun n hn w' => by
          have h5 : min al bl ≤ n ∧ n ≤ max ah bh := by simp only at h1 h2 h3 h4; rcases hn with rfl | rfl <;> omega
          have := Has_any (min al bl) (max ah bh) n w'
          rw [decide_eq_true h5.1, decide_eq_true h5.2] at this
          exact this
        have HP1 := Lib.hid (HH.out pp (.inl rfl))
        have HP2 := Lib.hid (HH.out qq (.inr rfl))
        have CJ := Lib.hid fun w' => Join_any al ah bl bh w'
        clear h1 h2 h3 h4 HH
        generalize min al bl = jl at *
        generalize max ah bh = jh at *
        go_upto_region 12 with (go_at_call 12; refine (CJ.out _).mono ?_; rintro e w3 ⟨rfl, hb3⟩; have HB3 := Lib.hid ((HB2.out.trans (hb3.mono HB2.out.size)).alloc (Nat.le_trans HB2.out.size hb3.size) (.cells #[.int .u64 jl, .int .u64 jh] 25)); have D9 := Lib.hid (show Duo (w3.alloc (.cells #[.int .u64 jl, .int .u64 jh] 25)) w3.heap.size 25 (.int .u64 jl) (.int .u64 jh) from World.alloc_heap_new _ _))
        generalize w3.alloc (.cells #[.int .u64 jl, .int .u64 jh] 25) = W3 at *
        clear hb3 CJ d0 d1 e0 e1
        have d0 := D9.out.c0
        have d1 := D9.out.c1
        go_wp2_with (first
          | (go_at_call 11; refine (HW.out _).mono ?_; rintro e w5 ⟨rfl, hb5⟩; replace D9 := Lib.hid (Duo.keep D9.out hb5 D9.out.lt); have d0 := D9.out.c0; have d1 := D9.out.c1; replace HB3 := Lib.hid (HB3.out.trans (hb5.mono HB3.out.size)); clear hb5)
          | (go_at_call_of 14 pp; refine (HP1.out _).mono ?_; rintro e w6 ⟨rfl, hb6⟩; replace D9 := Lib.hid (Duo.keep D9.out hb6 D9.out.lt); have d0 := D9.out.c0; have d1 := D9.out.c1; replace HB3 := Lib.hid (HB3.out.trans (hb6.mono HB3.out.size)); clear hb6)
          | (go_at_call_of 14 qq; refine (HP2.out _).mono ?_; rintro e w6 ⟨rfl, hb6⟩; replace HB3 := Lib.hid (HB3.out.trans (hb6.mono HB3.out.size)); clear hb6))
        go_ret
        exact ⟨by simp, HB3.out⟩
  ·
    go_simp
    refine hK.out _ _ (by refine KS.out _ ?_; repeat (first | exact Below.refl _ _ | refine Below.drew ?_ | (refine Below.alloc ?_ (by first | omega | (simp; omega)) _) | (refine Below.setCell ?_ (by first | omega | (simp; omega)) _))) (fun hHeld => ?_)
    clear hK K
    try simp only [Act.put, List.setIfInBounds_toArray, List.set_cons_zero, List.set_cons_succ]
    refine wpAnyH_ready (rs := [22]) (by kernel_rfl) (by simp) ?_
    refine AllReadyH.cons (o := ?oo27_0) ?hi27_0 (fun K hK => ?_) AllReadyH.nil
    case hi27_0 => (simp only [List.getElem?_toArray, List.getElem?_cons_succ, List.getElem?_cons_zero]; rfl)
    go_simp
    refine hK.out _ _ (by refine KS.out _ ?_; repeat (first | exact Below.refl _ _ | refine Below.drew ?_ | (refine Below.alloc ?_ (by first | omega | (simp; omega)) _) | (refine Below.setCell ?_ (by first | omega | (simp; omega)) _))) (fun hHeld => ?_)
    clear hK K
    try simp only [Act.put, List.setIfInBounds_toArray, List.set_cons_zero, List.set_cons_succ]
    refine wpAnyH_ready (rs := [24]) (by kernel_rfl) (by simp) ?_
    refine AllReadyH.cons (o := ?oo28_0) ?hi28_0 (fun K hK => ?_) AllReadyH.nil
    case hi28_0 => (simp only [List.getElem?_toArray, List.getElem?_cons_succ, List.getElem?_cons_zero]; rfl)
    go_simp
    refine hK.out _ _ (by refine KS.out _ ?_; repeat (first | exact Below.refl _ _ | refine Below.drew ?_ | (refine Below.alloc ?_ (by first | omega | (simp; omega)) _) | (refine Below.setCell ?_ (by first | omega | (simp; omega)) _))) (fun hHeld => ?_)
    clear hK K
    try simp only [Act.put, List.setIfInBounds_toArray, List.set_cons_zero, List.set_cons_succ]
    refine wpAnyH_ready (rs := [25]) (by kernel_rfl) (by simp) ?_
    refine AllReadyH.cons (o := ?oo29_0) ?hi29_0 (fun K hK => ?_) AllReadyH.nil
    case hi29_0 => (simp only [List.getElem?_toArray, List.getElem?_cons_succ, List.getElem?_cons_zero]; rfl)
    go_simp
    refine hK.out _ _ (by refine KS.out _ ?_; repeat (first | exact Below.refl _ _ | refine Below.drew ?_ | (refine Below.alloc ?_ (by first | omega | (simp; omega)) _) | (refine Below.setCell ?_ (by first | omega | (simp; omega)) _))) (fun hHeld => ?_)
    clear hK K
    try simp only [Act.put, List.setIfInBounds_toArray, List.set_cons_zero, List.set_cons_succ]
    refine wpAnyH_done (by kernel_rfl) ?_ _
    refine NoPanic.normal ?_
    have D7 : Hid (Duo (((W.alloc (.cells #[.int .u64 (min x2 x3), .int .u64 (max x2 x3)] 25)).alloc (.cells #[.int .u64 (min x0 x1), .int .u64 (max x0 x1)] 25)).drew) (w.heap.size + 1 + 1) 25 (.int .u64 (min x0 x1)) (.int .u64 (max x0 x1))) := Lib.hid (by rw [← hs0]; exact duo_snd W (.cells #[.int .u64 (min x2 x3), .int .u64 (max x2 x3)] 25) (min x0 x1) (max x0 x1))
    have D8 : Hid (Duo (((W.alloc (.cells #[.int .u64 (min x2 x3), .int .u64 (max x2 x3)] 25)).alloc (.cells #[.int .u64 (min x0 x1), .int .u64 (max x0 x1)] 25)).drew) (w.heap.size + 1) 25 (.int .u64 (min x2 x3)) (.int .u64 (max x2 x3))) := Lib.hid (by rw [← hs0]; exact duo_fst W (min x2 x3) (max x2 x3) (.cells #[.int .u64 (min x0 x1), .int .u64 (max x0 x1)] 25))
    have HB1 : Hid (Below w.heap.size w (((W.alloc (.cells #[.int .u64 (min x2 x3), .int .u64 (max x2 x3)] 25)).alloc (.cells #[.int .u64 (min x0 x1), .int .u64 (max x0 x1)] 25)).drew)) := Lib.hid (((hB0.alloc (by omega) _).alloc (by simp; omega) _).drew)
    clear hHeld KS S0 KD KA KE hB0 hF hs0 c0 c1 c2 c3
    generalize ((W.alloc (.cells #[.int .u64 (min x2 x3), .int .u64 (max x2 x3)] 25)).alloc (.cells #[.int .u64 (min x0 x1), .int .u64 (max x0 x1)] 25)).drew = W1 at *
    have HPQ := Lib.hid (And.intro HP.out HQ.out)
    generalize min x0 x1 = al at *
    generalize max x0 x1 = ah at *
    generalize min x2 x3 = bl at *
    generalize max x2 x3 = bh at *
    have d0 := D7.out.c0
    have d1 := D7.out.c1
    have e0 := D8.out.c0
    have e1 := D8.out.c1
    go_upto_region 2 with fail
    go_quiet (fail)
    have D7 : Hid (Duo (W1.drewN nq) (w.heap.size + 1 + 1) 25 (.int .u64 al) (.int .u64 ah)) := D7
    have D8 : Hid (Duo (W1.drewN nq) (w.heap.size + 1) 25 (.int .u64 bl) (.int .u64 bh)) := D8
    replace HB1 := Lib.hid (bdrewN HB1.out nq)
    clear d0 d1 e0 e1
    generalize W1.drewN nq = W1 at *
    generalize max al (min p ah) = pp at *
    generalize max bl (min q bh) = qq at *
    go_upto_region 4 with (go_at_call 8; refine (ops_any _ _).mono ?_; rintro e w2 ⟨⟨cs, rfl, hsz, hcs⟩, rfl⟩)
    have HC : Hid (∀ i, i < 18 → ∃ o : ByteArray, (W1.alloc (.cells cs 9)).cell? ⟨W1.heap.size, i, none⟩ = some (.string o)) := Lib.hid fun i hi => by
      obtain ⟨o, ho⟩ := hcs i hi
      exact ⟨o, by rw [cell_of_row _ _ _ _ _ (0, 0) (World.alloc_heap_new W1 _)]; exact ho⟩
    have hlt : W1.heap.size < (W1.alloc (.cells cs 9)).heap.size := by simp
    replace D7 := Lib.hid (Duo.keep D7.out ((Below.refl W1.heap.size W1).alloc (Nat.le_refl _) (.cells cs 9)) D7.out.lt)
    replace D8 := Lib.hid (Duo.keep D8.out ((Below.refl W1.heap.size W1).alloc (Nat.le_refl _) (.cells cs 9)) D8.out.lt)
    replace HB1 := Lib.hid (HB1.out.alloc HB1.out.size (.cells cs 9))
    clear hsz hcs
    generalize hob : W1.heap.size = ob at *
    generalize W1.alloc (.cells cs 9) = W2 at *
    go_loopw [54] (fun s54 wr => ∃ (i : Nat), s54 = .int .i64 i ∧ i ≤ 18 ∧ Below W2.heap.size W2 wr) (fun s54 _ => 18 - (intOf s54).toNat)
    case atStart => exact ⟨0, rfl, by omega, Below.refl _ _⟩
    case round =>
      obtain ⟨i, rfl, hin, hB⟩ := hrel
      have D7' := Duo.keep D7.out hB D7.out.lt
      have D8' := Duo.keep D8.out hB D8.out.lt
      have d0 := D7'.c0
      have d1 := D7'.c1
      have e0 := D8'.c0
      have e1 := D8'.c1
      have HB2 := Lib.hid (HB1.out.trans (hB.mono HB1.out.size))
      have HBr := Lib.hid hB
      have D7' := Lib.hid D7'
      have D8' := Lib.hid D8'
      by_cases hi2 : i < 18
      · have hi2' : (i : Int) < 18 := by omega
        obtain ⟨o, ho⟩ := HC.out i hi2
        have hoc := (hB.cell (p := ⟨ob, i, none⟩) hlt).trans ho
        clear hB ho
        have L := Lib.hid (opB_two (s := o) HA.out HB.out HPQ.out.1 HPQ.out.2)
        have CO : Hid (∀ w', Calls Try.prog 9 #[.string o, .agg #[.int .u64 al, .int .u64 ah], .agg #[.int .u64 bl, .int .u64 bh]] w' fun e w'' => e = .returned (.tuple #[.agg #[.int .u64 ((opB o.toList (al, ah) (bl, bh)).getD (0, 0)).1, .int .u64 ((opB o.toList (al, ah) (bl, bh)).getD (0, 0)).2], .bool (opB o.toList (al, ah) (bl, bh)).isSome]) ∧ Below w'.heap.size w' w'') := Lib.hid fun w' => bOp_any o (al, ah) (bl, bh) HA.out HB.out w'
        have CW : Hid (∀ w', Calls Try.prog 22 #[.string o, .int .u64 pp, .int .u64 qq] w' fun e w'' => e = .returned (.tuple #[.int .u64 (opR o.toList pp qq).1, .int .i64 (opR o.toList pp qq).2]) ∧ w' = w'') := Lib.hid fun w' => Op_any o pp qq (inr_w HA.out HPQ.out.1) (inr_w HB.out HPQ.out.2) w'
        generalize (opB o.toList (al, ah) (bl, bh)).isSome = bb at CO L
        generalize ((opB o.toList (al, ah) (bl, bh)).getD (0, 0)).1 = u1 at CO L
        generalize ((opB o.toList (al, ah) (bl, bh)).getD (0, 0)).2 = u2 at CO L
        generalize (opR o.toList pp qq).1 = rn at CW L
        generalize (opR o.toList pp qq).2 = re at CW L
        go_upto_region 7 with (go_at_call 9; refine (CO.out _).mono ?_; rintro e w3 ⟨rfl, hb3⟩; have HB3 := Lib.hid (hb3.alloc hb3.size (.cells #[.int .u64 u1, .int .u64 u2] 25)); have D9 := Lib.hid (show Duo (w3.alloc (.cells #[.int .u64 u1, .int .u64 u2] 25)) w3.heap.size 25 (.int .u64 u1) (.int .u64 u2) from World.alloc_heap_new _ _))
        generalize w3.alloc (.cells #[.int .u64 u1, .int .u64 u2] 25) = W3 at *
        clear hb3 CO d0 d1 e0 e1 hoc
        have HBx := Lib.hid (HBr.out.trans (HB3.out.mono HBr.out.size))
        have d0 := D9.out.c0
        have d1 := D9.out.c1
        by_cases hre : re = 0
        · subst hre
          obtain ⟨rfl, h1, h2⟩ := L.out rfl
          have HH : Hid (∀ w', Calls Try.prog 14 #[.agg #[.int .u64 u1, .int .u64 u2], .int .u64 rn] w' fun q w'' => q = .returned (.bool true) ∧ Below w'.heap.size w' w'') := Lib.hid fun w' => by
            have := Has_any u1 u2 rn w'
            rw [decide_eq_true h1, decide_eq_true h2] at this
            exact this
          clear h1 h2
          go_wp2_with (first
            | (go_at_call 22; refine (CW.out _).mono ?_; rintro e w4 ⟨rfl, rfl⟩)
            | (go_at_call 14; refine (HH.out _).mono ?_; rintro e w5 ⟨rfl, hb5⟩; have HBy := Lib.hid (HBx.out.trans (hb5.mono HBx.out.size)); clear hb5))
          exact ⟨⟨i + 1, by go_num, by omega, HBy.out⟩, by simp [intOf]; omega⟩
        · have hrb : (re == 0) = false := by simpa using hre
          clear hre
          go_wp2_with (go_at_call 22; refine (CW.out _).mono ?_; rintro e w4 ⟨rfl, rfl⟩)
          exact ⟨⟨i + 1, by go_num, by omega, HBx.out⟩, by simp [intOf]; omega⟩
      · obtain rfl : i = 18 := by omega
        clear hB
        obtain ⟨⟨h1, h2⟩, h3, h4⟩ := HPQ.out
        have HH : Hid (∀ n, n = pp ∨ n = qq → ∀ w', Calls Try.prog 14 #[.agg #[.int .u64 (min al bl), .int .u64 (max ah bh)], .int .u64 n] w' fun q w'' => q = .returned (.bool true) ∧ Below w'.heap.size w' w'') := Lib.hid fun n hn w' => by
          have h5 : min al bl ≤ n ∧ n ≤ max ah bh := by simp only at h1 h2 h3 h4; rcases hn with rfl | rfl <;> omega
          have := Has_any (min al bl) (max ah bh) n w'
          rw [decide_eq_true h5.1, decide_eq_true h5.2] at this
          exact this
        have HP1 := Lib.hid (HH.out pp (.inl rfl))
        have HP2 := Lib.hid (HH.out qq (.inr rfl))
        have CJ := Lib.hid fun w' => Join_any al ah bl bh w'
        clear h1 h2 h3 h4 HH
        generalize min al bl = jl at *
        generalize max ah bh = jh at *
        go_upto_region 12 with (go_at_call 12; refine (CJ.out _).mono ?_; rintro e w3 ⟨rfl, hb3⟩; have HB3 := Lib.hid ((HB2.out.trans (hb3.mono HB2.out.size)).alloc (Nat.le_trans HB2.out.size hb3.size) (.cells #[.int .u64 jl, .int .u64 jh] 25)); have D9 := Lib.hid (show Duo (w3.alloc (.cells #[.int .u64 jl, .int .u64 jh] 25)) w3.heap.size 25 (.int .u64 jl) (.int .u64 jh) from World.alloc_heap_new _ _))
        generalize w3.alloc (.cells #[.int .u64 jl, .int .u64 jh] 25) = W3 at *
        clear hb3 CJ d0 d1 e0 e1
        have d0 := D9.out.c0
        have d1 := D9.out.c1
        go_wp2_with (first
          | (go_at_call 11; refine (HW.out _).mono ?_; rintro e w5 ⟨rfl, hb5⟩; replace D9 := Lib.hid (Duo.keep D9.out hb5 D9.out.lt); have d0 := D9.out.c0; have d1 := D9.out.c1; replace HB3 := Lib.hid (HB3.out.trans (hb5.mono HB3.out.size)); clear hb5)
          | (go_at_call_of 14 pp; refine (HP1.out _).mono ?_; rintro e w6 ⟨rfl, hb6⟩; replace D9 := Lib.hid (Duo.keep D9.out hb6 D9.out.lt); have d0 := D9.out.c0; have d1 := D9.out.c1; replace HB3 := Lib.hid (HB3.out.trans (hb6.mono HB3.out.size)); clear hb6)
          | (go_at_call_of 14 qq; refine (HP2.out _).mono ?_; rintro e w6 ⟨rfl, hb6⟩; replace HB3 := Lib.hid (HB3.out.trans (hb6.mono HB3.out.size)); clear hb6))
        go_ret
        exact ⟨by simp, HB3.out⟩
end Go.Proofs.Ytoengahfkfmfeaa
