/- Layer 11: the walk of the law BoundsOps. -/
import Derived.Test.YtoengahfkfmfeaaBdX
import Derived.Test.YtoengahfkfmfeaaBdV
import Derived.Lib.QuietBelow
set_option linter.unusedVariables false
set_option linter.unusedSimpArgs false
namespace Go.Proofs.Ytoengahfkfmfeaa
open Go.ChangeShapes Go.WideShapes Go.ChangeAt Go.RowKit

theorem duo_fst2 (W : World) (x y : Int) (o : Obj) : Duo ((W.alloc (.cells #[.int .u64 x, .int .u64 y] 26)).alloc o).drew W.heap.size 26 (.int .u64 x) (.int .u64 y) := (Below.heap_alloc _ _ _ (by simp)).trans (World.alloc_heap_new W _)
theorem duo_snd2 (W : World) (o : Obj) (x y : Int) : Duo ((W.alloc o).alloc (.cells #[.int .u64 x, .int .u64 y] 26)).drew (W.heap.size + 1) 26 (.int .u64 x) (.int .u64 y) := by
  have := World.alloc_heap_new (W.alloc o) (.cells #[.int .u64 x, .int .u64 y] 26)
  rw [World.size_alloc] at this
  exact this
/-- What is known of the boxes when the loop begins: the array, two ranges of the program's, two of the document's. -/
structure Boxes (W : World) (n B7 B8 B9 Bx : Nat) (x0 x1 x2 x3 : Int) : Prop where
  f : Four W n 23 (.int .u64 x0) (.int .u64 x1) (.int .u64 x2) (.int .u64 x3)
  d7 : Duo W B7 25 (.int .u64 x0) (.int .u64 x1)
  d8 : Duo W B8 25 (.int .u64 x2) (.int .u64 x3)
  d9 : Duo W B9 26 (.int .u64 x0) (.int .u64 x1)
  dx : Duo W Bx 26 (.int .u64 x2) (.int .u64 x3)
theorem Boxes.keep {W W' : World} {n B7 B8 B9 Bx : Nat} {x0 x1 x2 x3 : Int} (h : Boxes W n B7 B8 B9 Bx x0 x1 x2 x3) (hb : Below W.heap.size W W') : Boxes W' n B7 B8 B9 Bx x0 x1 x2 x3 :=
  ⟨(hb.block _ h.f.lt).trans h.f, Duo.keep h.d7 hb h.d7.lt, Duo.keep h.d8 hb h.d8.lt, Duo.keep h.d9 hb h.d9.lt, Duo.keep h.dx hb h.dx.lt⟩
theorem Boxes.cells {W : World} {n B7 B8 B9 Bx : Nat} {x0 x1 x2 x3 : Int} (h : Boxes W n B7 B8 B9 Bx x0 x1 x2 x3) : (W.cell? ⟨n, 0, none⟩ = some (.int .u64 x0) ∧ W.cell? ⟨n, 1, none⟩ = some (.int .u64 x1)) ∧ (W.cell? ⟨B7, 0, none⟩ = some (.int .u64 x0) ∧ W.cell? ⟨B7, 1, none⟩ = some (.int .u64 x1)) ∧ (W.cell? ⟨B8, 0, none⟩ = some (.int .u64 x2) ∧ W.cell? ⟨B8, 1, none⟩ = some (.int .u64 x3)) ∧ (W.cell? ⟨B9, 0, none⟩ = some (.int .u64 x0) ∧ W.cell? ⟨B9, 1, none⟩ = some (.int .u64 x1)) ∧ (W.cell? ⟨Bx, 0, none⟩ = some (.int .u64 x2) ∧ W.cell? ⟨Bx, 1, none⟩ = some (.int .u64 x3)) :=
  ⟨⟨h.f.cells.1, h.f.cells.2.1⟩, ⟨h.d7.c0, h.d7.c1⟩, ⟨h.d8.c0, h.d8.c1⟩, ⟨h.d9.c0, h.d9.c1⟩, ⟨h.dx.c0, h.dx.c1⟩⟩
set_option maxHeartbeats 4000000 in
set_option maxRecDepth 100000 in
theorem BoundsOps_walk (s : ByteArray) (x0 x1 x2 x3 n : Int) (w : World) (ws : s.size ≤ maxLen) (a0 : 0 ≤ x0) (b0 : x0 ≤ 18446744073709551615) (a1 : 0 ≤ x1) (b1 : x1 ≤ 18446744073709551615) (a2 : 0 ≤ x2) (b2 : x2 ≤ 18446744073709551615) (a3 : 0 ≤ x3) (b3 : x3 ≤ 18446744073709551615) (a4 : 0 ≤ n) (b4 : n ≤ 18446744073709551615) :
    Calls Try.prog 3 #[.string s, .agg #[.int .u64 x0, .int .u64 x1, .int .u64 x2, .int .u64 x3], .int .u64 n] w fun e w' => e = .returned (.bool true) ∧ Below w.heap.size w w' := by
  have HW := Lib.hid fun w' => wakes_any w'
  have HA := Lib.hid (wr_of a0 b0 a1 b1)
  have HBB := Lib.hid (wr_of a2 b2 a3 b3)
  have hk70 : IntKind.i64.wrap (n % 70) = n % 70 := by rw [show IntKind.i64.wrap (n % 70) = wrap64 (n % 70) from IntWalk.i64_left _, IntWalk.wrap64_in _ (by omega)]
  have hk71 : 0 ≤ n % 70 ∧ n % 70 ≤ 69 := by omega
  have HAll := Lib.hid fun w' => All_any (n % 70) ⟨by omega, by omega⟩ w'
  have HMask := Lib.hid fun w' => refMask_any (n % 70) (by simp [Lit.wf, IntKind.min, IntKind.max, IntKind.signed, IntKind.bits]; omega) w'
  obtain ⟨q0, q1⟩ := hk71
  obtain ⟨m, hm⟩ : ∃ m : Nat, min s.size 4 = m := ⟨_, rfl⟩
  have hmin : min (s.size : Int) 4 = (m : Int) := by omega
  have hml : (m : Int) ≤ (s.size : Int) := by omega
  have hm4 : max (m : Int) 0 = (m : Int) := by omega
  have hF : Four (w.alloc (.cells #[.int .u64 x0, .int .u64 x1, .int .u64 x2, .int .u64 x3] 23)) w.heap.size 23 (.int .u64 x0) (.int .u64 x1) (.int .u64 x2) (.int .u64 x3) := World.alloc_heap_new _ _
  obtain ⟨c0, c1, c2, c3⟩ := hF.cells
  clear a0 b0 a1 b1 a2 b2 a3 b3 hm
  go_enter Try.func3, Try.ntmps3
  go_upto_region 2 with fail
  have flt0 : w.heap.size < (w.alloc (.cells #[.int .u64 x0, .int .u64 x1, .int .u64 x2, .int .u64 x3] 23)).heap.size := by simp
  have HB0 := Lib.hid ((Below.refl w.heap.size w).alloc (Nat.le_refl _) (.cells #[.int .u64 x0, .int .u64 x1, .int .u64 x2, .int .u64 x3] 23))
  generalize w.alloc (.cells #[.int .u64 x0, .int .u64 x1, .int .u64 x2, .int .u64 x3] 23) = W at *
  refine (fun (KEY2 : (?P2 : Prop)) => ?main2) ?key2
  case main2 =>
    obtain ⟨N, hs0⟩ : ∃ N, W.heap.size = N := ⟨_, rfl⟩
    have flt : w.heap.size < N := hs0 ▸ flt0
    have KS : Hid (∀ w', Below N W w' → (fun w' => w'.cell? ⟨w.heap.size, 0, none⟩ = some (.int .u64 x0) ∧ w'.cell? ⟨w.heap.size, 1, none⟩ = some (.int .u64 x1) ∧ w'.cell? ⟨w.heap.size, 2, none⟩ = some (.int .u64 x2) ∧ w'.cell? ⟨w.heap.size, 3, none⟩ = some (.int .u64 x3) ∧ Below N W w') w') := Lib.hid fun w' hb => ⟨(hb.cell (p := ⟨w.heap.size, 0, none⟩) flt).trans c0, (hb.cell (p := ⟨w.heap.size, 1, none⟩) flt).trans c1, (hb.cell (p := ⟨w.heap.size, 2, none⟩) flt).trans c2, (hb.cell (p := ⟨w.heap.size, 3, none⟩) flt).trans c3, hb⟩
    have S0 := KS.out W (Below.refl _ _)
    have KD : Hid (∀ w', (fun w' => w'.cell? ⟨w.heap.size, 0, none⟩ = some (.int .u64 x0) ∧ w'.cell? ⟨w.heap.size, 1, none⟩ = some (.int .u64 x1) ∧ w'.cell? ⟨w.heap.size, 2, none⟩ = some (.int .u64 x2) ∧ w'.cell? ⟨w.heap.size, 3, none⟩ = some (.int .u64 x3) ∧ Below N W w') w' → (fun w' => w'.cell? ⟨w.heap.size, 0, none⟩ = some (.int .u64 x0) ∧ w'.cell? ⟨w.heap.size, 1, none⟩ = some (.int .u64 x1) ∧ w'.cell? ⟨w.heap.size, 2, none⟩ = some (.int .u64 x2) ∧ w'.cell? ⟨w.heap.size, 3, none⟩ = some (.int .u64 x3) ∧ Below N W w') w'.drew) := Lib.hid fun w' h => KS.out _ h.2.2.2.2.drew
    refine wp_region_noPanic ?_
    refine wp_region_held_drew (S := (fun w' => w'.cell? ⟨w.heap.size, 0, none⟩ = some (.int .u64 x0) ∧ w'.cell? ⟨w.heap.size, 1, none⟩ = some (.int .u64 x1) ∧ w'.cell? ⟨w.heap.size, 2, none⟩ = some (.int .u64 x2) ∧ w'.cell? ⟨w.heap.size, 3, none⟩ = some (.int .u64 x3) ∧ Below N W w')) (by kernel_rfl) (KD.out _ S0) (fun hHeld => ?_)
    refine wpAnyH_take (i := 0) (oi := ?oi1) (v := (.pointer (some ⟨w.heap.size, 0, none⟩))) ?hi1 (by kernel_rfl) (by kernel_rfl) (by kernel_rfl) (fun _ _ _ h => h) ?hy1 (by assumption) ?rest1
    case hi1 => (simp only [List.getElem?_toArray, List.getElem?_cons_succ, List.getElem?_cons_zero]; rfl)
    case hy1 => exact Or.inl ⟨by rfl, fun w' hS => by go_simp⟩
    try simp only [Act.put, List.setIfInBounds_toArray, List.set_cons_zero, List.set_cons_succ]
    refine wpAnyH_take (i := 1) (oi := ?oi2) (v := (.int .u64 x0)) ?hi2 (by kernel_rfl) (by kernel_rfl) (by kernel_rfl) (fun _ _ _ h => h) ?hy2 (by assumption) ?rest2
    case hi2 => (simp only [List.getElem?_toArray, List.getElem?_cons_succ, List.getElem?_cons_zero]; rfl)
    case hy2 => exact Or.inl ⟨by rfl, fun w' hS => by have hp := hS.1; go_simp⟩
    try simp only [Act.put, List.setIfInBounds_toArray, List.set_cons_zero, List.set_cons_succ]
    refine wpAnyH_take (i := 2) (oi := ?oi3) (v := (.pointer (some ⟨w.heap.size, 1, none⟩))) ?hi3 (by kernel_rfl) (by kernel_rfl) (by kernel_rfl) (fun _ _ _ h => h) ?hy3 (by assumption) ?rest3
    case hi3 => (simp only [List.getElem?_toArray, List.getElem?_cons_succ, List.getElem?_cons_zero]; rfl)
    case hy3 => exact Or.inl ⟨by rfl, fun w' hS => by go_simp⟩
    try simp only [Act.put, List.setIfInBounds_toArray, List.set_cons_zero, List.set_cons_succ]
    refine wpAnyH_take (i := 3) (oi := ?oi4) (v := (.int .u64 x1)) ?hi4 (by kernel_rfl) (by kernel_rfl) (by kernel_rfl) (fun _ _ _ h => h) ?hy4 (by assumption) ?rest4
    case hi4 => (simp only [List.getElem?_toArray, List.getElem?_cons_succ, List.getElem?_cons_zero]; rfl)
    case hy4 => exact Or.inl ⟨by rfl, fun w' hS => by have hp := hS.2.1; go_simp⟩
    try simp only [Act.put, List.setIfInBounds_toArray, List.set_cons_zero, List.set_cons_succ]
    refine wpAnyH_take (i := 4) (oi := ?oi5) (v := (.agg #[.int .u64 x0, .int .u64 x1])) ?hi5 (by kernel_rfl) (by kernel_rfl) (by kernel_rfl) (fun _ _ _ h => h) ?hy5 (by assumption) ?rest5
    case hi5 => (simp only [List.getElem?_toArray, List.getElem?_cons_succ, List.getElem?_cons_zero]; rfl)
    case hy5 => exact Or.inl ⟨by rfl, fun w' hS => by go_simp⟩
    try simp only [Act.put, List.setIfInBounds_toArray, List.set_cons_zero, List.set_cons_succ]
    refine wpAnyH_take (i := 5) (oi := ?oi6) (v := (.pointer (some ⟨w.heap.size, 2, none⟩))) ?hi6 (by kernel_rfl) (by kernel_rfl) (by kernel_rfl) (fun _ _ _ h => h) ?hy6 (by assumption) ?rest6
    case hi6 => (simp only [List.getElem?_toArray, List.getElem?_cons_succ, List.getElem?_cons_zero]; rfl)
    case hy6 => exact Or.inl ⟨by rfl, fun w' hS => by go_simp⟩
    try simp only [Act.put, List.setIfInBounds_toArray, List.set_cons_zero, List.set_cons_succ]
    refine wpAnyH_take (i := 6) (oi := ?oi7) (v := (.int .u64 x2)) ?hi7 (by kernel_rfl) (by kernel_rfl) (by kernel_rfl) (fun _ _ _ h => h) ?hy7 (by assumption) ?rest7
    case hi7 => (simp only [List.getElem?_toArray, List.getElem?_cons_succ, List.getElem?_cons_zero]; rfl)
    case hy7 => exact Or.inl ⟨by rfl, fun w' hS => by have hp := hS.2.2.1; go_simp⟩
    try simp only [Act.put, List.setIfInBounds_toArray, List.set_cons_zero, List.set_cons_succ]
    refine wpAnyH_take (i := 7) (oi := ?oi8) (v := (.pointer (some ⟨w.heap.size, 3, none⟩))) ?hi8 (by kernel_rfl) (by kernel_rfl) (by kernel_rfl) (fun _ _ _ h => h) ?hy8 (by assumption) ?rest8
    case hi8 => (simp only [List.getElem?_toArray, List.getElem?_cons_succ, List.getElem?_cons_zero]; rfl)
    case hy8 => exact Or.inl ⟨by rfl, fun w' hS => by go_simp⟩
    try simp only [Act.put, List.setIfInBounds_toArray, List.set_cons_zero, List.set_cons_succ]
    refine wpAnyH_take (i := 8) (oi := ?oi9) (v := (.int .u64 x3)) ?hi9 (by kernel_rfl) (by kernel_rfl) (by kernel_rfl) (fun _ _ _ h => h) ?hy9 (by assumption) ?rest9
    case hi9 => (simp only [List.getElem?_toArray, List.getElem?_cons_succ, List.getElem?_cons_zero]; rfl)
    case hy9 => exact Or.inl ⟨by rfl, fun w' hS => by have hp := hS.2.2.2.1; go_simp⟩
    try simp only [Act.put, List.setIfInBounds_toArray, List.set_cons_zero, List.set_cons_succ]
    refine wpAnyH_take (i := 9) (oi := ?oi10) (v := (.agg #[.int .u64 x2, .int .u64 x3])) ?hi10 (by kernel_rfl) (by kernel_rfl) (by kernel_rfl) (fun _ _ _ h => h) ?hy10 (by assumption) ?rest10
    case hi10 => (simp only [List.getElem?_toArray, List.getElem?_cons_succ, List.getElem?_cons_zero]; rfl)
    case hy10 => exact Or.inl ⟨by rfl, fun w' hS => by go_simp⟩
    try simp only [Act.put, List.setIfInBounds_toArray, List.set_cons_zero, List.set_cons_succ]
    refine wpAnyH_ready (rs := [10, 11]) (by kernel_rfl) (by simp) ?_
    refine AllReadyH.cons (o := ?oo11_0) ?hi11_0 (fun K hK => ?_) (AllReadyH.cons (o := ?oo11_1) ?hi11_1 (fun K hK => ?_) AllReadyH.nil)
    case hi11_0 => (simp only [List.getElem?_toArray, List.getElem?_cons_succ, List.getElem?_cons_zero]; rfl)
    case hi11_1 => (simp only [List.getElem?_toArray, List.getElem?_cons_succ, List.getElem?_cons_zero]; rfl)
    ·
      go_simp
      refine hK.out _ _ (by refine KS.out _ ?_; repeat (first | exact Below.refl _ _ | refine Below.drew ?_ | (refine Below.alloc ?_ (by first | omega | (simp; omega)) _) | (refine Below.setCell ?_ (by first | omega | (simp; omega)) _))) (fun hHeld => ?_)
      clear hK K
      try simp only [Act.put, List.setIfInBounds_toArray, List.set_cons_zero, List.set_cons_succ]
      refine wpAnyH_ready (rs := [11]) (by kernel_rfl) (by simp) ?_
      refine AllReadyH.cons (o := ?oo12_0) ?hi12_0 (fun K hK => ?_) AllReadyH.nil
      case hi12_0 => (simp only [List.getElem?_toArray, List.getElem?_cons_succ, List.getElem?_cons_zero]; rfl)
      go_simp
      refine hK.out _ _ (by refine KS.out _ ?_; repeat (first | exact Below.refl _ _ | refine Below.drew ?_ | (refine Below.alloc ?_ (by first | omega | (simp; omega)) _) | (refine Below.setCell ?_ (by first | omega | (simp; omega)) _))) (fun hHeld => ?_)
      clear hK K
      try simp only [Act.put, List.setIfInBounds_toArray, List.set_cons_zero, List.set_cons_succ]
      refine wpAnyH_ready (rs := [12]) (by kernel_rfl) (by simp) ?_
      refine AllReadyH.cons (o := ?oo13_0) ?hi13_0 (fun K hK => ?_) AllReadyH.nil
      case hi13_0 => (simp only [List.getElem?_toArray, List.getElem?_cons_succ, List.getElem?_cons_zero]; rfl)
      go_simp
      refine hK.out _ _ (by refine KS.out _ ?_; repeat (first | exact Below.refl _ _ | refine Below.drew ?_ | (refine Below.alloc ?_ (by first | omega | (simp; omega)) _) | (refine Below.setCell ?_ (by first | omega | (simp; omega)) _))) (fun hHeld => ?_)
      clear hK K
      try simp only [Act.put, List.setIfInBounds_toArray, List.set_cons_zero, List.set_cons_succ]
      refine wpAnyH_ready (rs := [13]) (by kernel_rfl) (by simp) ?_
      refine AllReadyH.cons (o := ?oo14_0) ?hi14_0 (fun K hK => ?_) AllReadyH.nil
      case hi14_0 => (simp only [List.getElem?_toArray, List.getElem?_cons_succ, List.getElem?_cons_zero]; rfl)
      go_simp
      refine hK.out _ _ (by refine KS.out _ ?_; repeat (first | exact Below.refl _ _ | refine Below.drew ?_ | (refine Below.alloc ?_ (by first | omega | (simp; omega)) _) | (refine Below.setCell ?_ (by first | omega | (simp; omega)) _))) (fun hHeld => ?_)
      clear hK K
      try simp only [Act.put, List.setIfInBounds_toArray, List.set_cons_zero, List.set_cons_succ]
      refine wpAnyH_done (by kernel_rfl) ?_ _
      refine NoPanic.normal ?_
      have HL : Below N W (((W.alloc (.cells #[.int .u64 x0, .int .u64 x1] 25)).alloc (.cells #[.int .u64 x2, .int .u64 x3] 25)).drew) := (((Below.refl N W).alloc (by omega) _).alloc (by simp; omega) _).drew
      have DA : Hid (Duo (((W.alloc (.cells #[.int .u64 x0, .int .u64 x1] 25)).alloc (.cells #[.int .u64 x2, .int .u64 x3] 25)).drew) N 25 (.int .u64 x0) (.int .u64 x1)) := Lib.hid (by rw [← hs0]; exact duo_fst W x0 x1 (.cells #[.int .u64 x2, .int .u64 x3] 25))
      have DB : Hid (Duo (((W.alloc (.cells #[.int .u64 x0, .int .u64 x1] 25)).alloc (.cells #[.int .u64 x2, .int .u64 x3] 25)).drew) (N + 1) 25 (.int .u64 x2) (.int .u64 x3)) := Lib.hid (by rw [← hs0]; exact duo_snd W (.cells #[.int .u64 x0, .int .u64 x1] 25) x2 x3)
      have FF : Hid (Four (((W.alloc (.cells #[.int .u64 x0, .int .u64 x1] 25)).alloc (.cells #[.int .u64 x2, .int .u64 x3] 25)).drew) w.heap.size 23 (.int .u64 x0) (.int .u64 x1) (.int .u64 x2) (.int .u64 x3)) := Lib.hid ((HL.block _ flt).trans hF)
      have HB1 : Hid (Below w.heap.size w (((W.alloc (.cells #[.int .u64 x0, .int .u64 x1] 25)).alloc (.cells #[.int .u64 x2, .int .u64 x3] 25)).drew)) := Lib.hid (HB0.out.trans (HL.mono (Nat.le_of_lt flt)))
      clear hHeld KS S0 KD HL hs0 flt
      generalize (((W.alloc (.cells #[.int .u64 x0, .int .u64 x1] 25)).alloc (.cells #[.int .u64 x2, .int .u64 x3] 25)).drew) = W1 at DA DB FF HB1 ⊢
      generalize N + 1 = PB at DA DB ⊢
      generalize N = PA at DA DB ⊢
      revert HB1
      revert FF
      revert DB
      revert DA
      revert W1
      revert PB
      revert PA
      exact KEY2
    ·
      go_simp
      refine hK.out _ _ (by refine KS.out _ ?_; repeat (first | exact Below.refl _ _ | refine Below.drew ?_ | (refine Below.alloc ?_ (by first | omega | (simp; omega)) _) | (refine Below.setCell ?_ (by first | omega | (simp; omega)) _))) (fun hHeld => ?_)
      clear hK K
      try simp only [Act.put, List.setIfInBounds_toArray, List.set_cons_zero, List.set_cons_succ]
      refine wpAnyH_ready (rs := [10]) (by kernel_rfl) (by simp) ?_
      refine AllReadyH.cons (o := ?oo15_0) ?hi15_0 (fun K hK => ?_) AllReadyH.nil
      case hi15_0 => (simp only [List.getElem?_toArray, List.getElem?_cons_succ, List.getElem?_cons_zero]; rfl)
      go_simp
      refine hK.out _ _ (by refine KS.out _ ?_; repeat (first | exact Below.refl _ _ | refine Below.drew ?_ | (refine Below.alloc ?_ (by first | omega | (simp; omega)) _) | (refine Below.setCell ?_ (by first | omega | (simp; omega)) _))) (fun hHeld => ?_)
      clear hK K
      try simp only [Act.put, List.setIfInBounds_toArray, List.set_cons_zero, List.set_cons_succ]
      refine wpAnyH_ready (rs := [12]) (by kernel_rfl) (by simp) ?_
      refine AllReadyH.cons (o := ?oo16_0) ?hi16_0 (fun K hK => ?_) AllReadyH.nil
      case hi16_0 => (simp only [List.getElem?_toArray, List.getElem?_cons_succ, List.getElem?_cons_zero]; rfl)
      go_simp
      refine hK.out _ _ (by refine KS.out _ ?_; repeat (first | exact Below.refl _ _ | refine Below.drew ?_ | (refine Below.alloc ?_ (by first | omega | (simp; omega)) _) | (refine Below.setCell ?_ (by first | omega | (simp; omega)) _))) (fun hHeld => ?_)
      clear hK K
      try simp only [Act.put, List.setIfInBounds_toArray, List.set_cons_zero, List.set_cons_succ]
      refine wpAnyH_ready (rs := [13]) (by kernel_rfl) (by simp) ?_
      refine AllReadyH.cons (o := ?oo17_0) ?hi17_0 (fun K hK => ?_) AllReadyH.nil
      case hi17_0 => (simp only [List.getElem?_toArray, List.getElem?_cons_succ, List.getElem?_cons_zero]; rfl)
      go_simp
      refine hK.out _ _ (by refine KS.out _ ?_; repeat (first | exact Below.refl _ _ | refine Below.drew ?_ | (refine Below.alloc ?_ (by first | omega | (simp; omega)) _) | (refine Below.setCell ?_ (by first | omega | (simp; omega)) _))) (fun hHeld => ?_)
      clear hK K
      try simp only [Act.put, List.setIfInBounds_toArray, List.set_cons_zero, List.set_cons_succ]
      refine wpAnyH_done (by kernel_rfl) ?_ _
      refine NoPanic.normal ?_
      have HL : Below N W (((W.alloc (.cells #[.int .u64 x2, .int .u64 x3] 25)).alloc (.cells #[.int .u64 x0, .int .u64 x1] 25)).drew) := (((Below.refl N W).alloc (by omega) _).alloc (by simp; omega) _).drew
      have DA : Hid (Duo (((W.alloc (.cells #[.int .u64 x2, .int .u64 x3] 25)).alloc (.cells #[.int .u64 x0, .int .u64 x1] 25)).drew) (N + 1) 25 (.int .u64 x0) (.int .u64 x1)) := Lib.hid (by rw [← hs0]; exact duo_snd W (.cells #[.int .u64 x2, .int .u64 x3] 25) x0 x1)
      have DB : Hid (Duo (((W.alloc (.cells #[.int .u64 x2, .int .u64 x3] 25)).alloc (.cells #[.int .u64 x0, .int .u64 x1] 25)).drew) N 25 (.int .u64 x2) (.int .u64 x3)) := Lib.hid (by rw [← hs0]; exact duo_fst W x2 x3 (.cells #[.int .u64 x0, .int .u64 x1] 25))
      have FF : Hid (Four (((W.alloc (.cells #[.int .u64 x2, .int .u64 x3] 25)).alloc (.cells #[.int .u64 x0, .int .u64 x1] 25)).drew) w.heap.size 23 (.int .u64 x0) (.int .u64 x1) (.int .u64 x2) (.int .u64 x3)) := Lib.hid ((HL.block _ flt).trans hF)
      have HB1 : Hid (Below w.heap.size w (((W.alloc (.cells #[.int .u64 x2, .int .u64 x3] 25)).alloc (.cells #[.int .u64 x0, .int .u64 x1] 25)).drew)) := Lib.hid (HB0.out.trans (HL.mono (Nat.le_of_lt flt)))
      clear hHeld KS S0 KD HL hs0 flt
      generalize (((W.alloc (.cells #[.int .u64 x2, .int .u64 x3] 25)).alloc (.cells #[.int .u64 x0, .int .u64 x1] 25)).drew) = W1 at DA DB FF HB1 ⊢
      generalize N + 1 = PA at DA DB ⊢
      generalize N = PB at DA DB ⊢
      revert HB1
      revert FF
      revert DB
      revert DA
      revert W1
      revert PB
      revert PA
      exact KEY2
  case key2 =>
  clear hF c0 c1 c2 c3 HB0 flt0
  intro B7 B8 W1 D7 D8 FF HB0
  clear W
  have hF := FF.out
  have flt0 := hF.lt
  obtain ⟨c0, c1, c2, c3⟩ := hF.cells
  clear FF
  go_upto_region 3 with fail
  refine (fun (KEY3 : (?P3 : Prop)) => ?main3) ?key3
  case main3 =>
    obtain ⟨N, hs0⟩ : ∃ N, W1.heap.size = N := ⟨_, rfl⟩
    have flt : w.heap.size < N := hs0 ▸ flt0
    have KS : Hid (∀ w', Below N W1 w' → (fun w' => w'.cell? ⟨w.heap.size, 0, none⟩ = some (.int .u64 x0) ∧ w'.cell? ⟨w.heap.size, 1, none⟩ = some (.int .u64 x1) ∧ w'.cell? ⟨w.heap.size, 2, none⟩ = some (.int .u64 x2) ∧ w'.cell? ⟨w.heap.size, 3, none⟩ = some (.int .u64 x3) ∧ Below N W1 w') w') := Lib.hid fun w' hb => ⟨(hb.cell (p := ⟨w.heap.size, 0, none⟩) flt).trans c0, (hb.cell (p := ⟨w.heap.size, 1, none⟩) flt).trans c1, (hb.cell (p := ⟨w.heap.size, 2, none⟩) flt).trans c2, (hb.cell (p := ⟨w.heap.size, 3, none⟩) flt).trans c3, hb⟩
    have S0 := KS.out W1 (Below.refl _ _)
    have KD : Hid (∀ w', (fun w' => w'.cell? ⟨w.heap.size, 0, none⟩ = some (.int .u64 x0) ∧ w'.cell? ⟨w.heap.size, 1, none⟩ = some (.int .u64 x1) ∧ w'.cell? ⟨w.heap.size, 2, none⟩ = some (.int .u64 x2) ∧ w'.cell? ⟨w.heap.size, 3, none⟩ = some (.int .u64 x3) ∧ Below N W1 w') w' → (fun w' => w'.cell? ⟨w.heap.size, 0, none⟩ = some (.int .u64 x0) ∧ w'.cell? ⟨w.heap.size, 1, none⟩ = some (.int .u64 x1) ∧ w'.cell? ⟨w.heap.size, 2, none⟩ = some (.int .u64 x2) ∧ w'.cell? ⟨w.heap.size, 3, none⟩ = some (.int .u64 x3) ∧ Below N W1 w') w'.drew) := Lib.hid fun w' h => KS.out _ h.2.2.2.2.drew
    refine wp_region_noPanic ?_
    refine wp_region_held_drew (S := (fun w' => w'.cell? ⟨w.heap.size, 0, none⟩ = some (.int .u64 x0) ∧ w'.cell? ⟨w.heap.size, 1, none⟩ = some (.int .u64 x1) ∧ w'.cell? ⟨w.heap.size, 2, none⟩ = some (.int .u64 x2) ∧ w'.cell? ⟨w.heap.size, 3, none⟩ = some (.int .u64 x3) ∧ Below N W1 w')) (by kernel_rfl) (KD.out _ S0) (fun hHeld => ?_)
    refine wpAnyH_take (i := 0) (oi := ?oi201) (v := (.pointer (some ⟨w.heap.size, 0, none⟩))) ?hi201 (by kernel_rfl) (by kernel_rfl) (by kernel_rfl) (fun _ _ _ h => h) ?hy201 (by assumption) ?rest201
    case hi201 => (simp only [List.getElem?_toArray, List.getElem?_cons_succ, List.getElem?_cons_zero]; rfl)
    case hy201 => exact Or.inl ⟨by rfl, fun w' hS => by go_simp⟩
    try simp only [Act.put, List.setIfInBounds_toArray, List.set_cons_zero, List.set_cons_succ]
    refine wpAnyH_take (i := 1) (oi := ?oi202) (v := (.int .u64 x0)) ?hi202 (by kernel_rfl) (by kernel_rfl) (by kernel_rfl) (fun _ _ _ h => h) ?hy202 (by assumption) ?rest202
    case hi202 => (simp only [List.getElem?_toArray, List.getElem?_cons_succ, List.getElem?_cons_zero]; rfl)
    case hy202 => exact Or.inl ⟨by rfl, fun w' hS => by have hp := hS.1; go_simp⟩
    try simp only [Act.put, List.setIfInBounds_toArray, List.set_cons_zero, List.set_cons_succ]
    refine wpAnyH_take (i := 2) (oi := ?oi203) (v := (.pointer (some ⟨w.heap.size, 1, none⟩))) ?hi203 (by kernel_rfl) (by kernel_rfl) (by kernel_rfl) (fun _ _ _ h => h) ?hy203 (by assumption) ?rest203
    case hi203 => (simp only [List.getElem?_toArray, List.getElem?_cons_succ, List.getElem?_cons_zero]; rfl)
    case hy203 => exact Or.inl ⟨by rfl, fun w' hS => by go_simp⟩
    try simp only [Act.put, List.setIfInBounds_toArray, List.set_cons_zero, List.set_cons_succ]
    refine wpAnyH_take (i := 3) (oi := ?oi204) (v := (.int .u64 x1)) ?hi204 (by kernel_rfl) (by kernel_rfl) (by kernel_rfl) (fun _ _ _ h => h) ?hy204 (by assumption) ?rest204
    case hi204 => (simp only [List.getElem?_toArray, List.getElem?_cons_succ, List.getElem?_cons_zero]; rfl)
    case hy204 => exact Or.inl ⟨by rfl, fun w' hS => by have hp := hS.2.1; go_simp⟩
    try simp only [Act.put, List.setIfInBounds_toArray, List.set_cons_zero, List.set_cons_succ]
    refine wpAnyH_take (i := 4) (oi := ?oi205) (v := (.agg #[.int .u64 x0, .int .u64 x1])) ?hi205 (by kernel_rfl) (by kernel_rfl) (by kernel_rfl) (fun _ _ _ h => h) ?hy205 (by assumption) ?rest205
    case hi205 => (simp only [List.getElem?_toArray, List.getElem?_cons_succ, List.getElem?_cons_zero]; rfl)
    case hy205 => exact Or.inl ⟨by rfl, fun w' hS => by go_simp⟩
    try simp only [Act.put, List.setIfInBounds_toArray, List.set_cons_zero, List.set_cons_succ]
    refine wpAnyH_take (i := 5) (oi := ?oi206) (v := (.pointer (some ⟨w.heap.size, 2, none⟩))) ?hi206 (by kernel_rfl) (by kernel_rfl) (by kernel_rfl) (fun _ _ _ h => h) ?hy206 (by assumption) ?rest206
    case hi206 => (simp only [List.getElem?_toArray, List.getElem?_cons_succ, List.getElem?_cons_zero]; rfl)
    case hy206 => exact Or.inl ⟨by rfl, fun w' hS => by go_simp⟩
    try simp only [Act.put, List.setIfInBounds_toArray, List.set_cons_zero, List.set_cons_succ]
    refine wpAnyH_take (i := 6) (oi := ?oi207) (v := (.int .u64 x2)) ?hi207 (by kernel_rfl) (by kernel_rfl) (by kernel_rfl) (fun _ _ _ h => h) ?hy207 (by assumption) ?rest207
    case hi207 => (simp only [List.getElem?_toArray, List.getElem?_cons_succ, List.getElem?_cons_zero]; rfl)
    case hy207 => exact Or.inl ⟨by rfl, fun w' hS => by have hp := hS.2.2.1; go_simp⟩
    try simp only [Act.put, List.setIfInBounds_toArray, List.set_cons_zero, List.set_cons_succ]
    refine wpAnyH_take (i := 7) (oi := ?oi208) (v := (.pointer (some ⟨w.heap.size, 3, none⟩))) ?hi208 (by kernel_rfl) (by kernel_rfl) (by kernel_rfl) (fun _ _ _ h => h) ?hy208 (by assumption) ?rest208
    case hi208 => (simp only [List.getElem?_toArray, List.getElem?_cons_succ, List.getElem?_cons_zero]; rfl)
    case hy208 => exact Or.inl ⟨by rfl, fun w' hS => by go_simp⟩
    try simp only [Act.put, List.setIfInBounds_toArray, List.set_cons_zero, List.set_cons_succ]
    refine wpAnyH_take (i := 8) (oi := ?oi209) (v := (.int .u64 x3)) ?hi209 (by kernel_rfl) (by kernel_rfl) (by kernel_rfl) (fun _ _ _ h => h) ?hy209 (by assumption) ?rest209
    case hi209 => (simp only [List.getElem?_toArray, List.getElem?_cons_succ, List.getElem?_cons_zero]; rfl)
    case hy209 => exact Or.inl ⟨by rfl, fun w' hS => by have hp := hS.2.2.2.1; go_simp⟩
    try simp only [Act.put, List.setIfInBounds_toArray, List.set_cons_zero, List.set_cons_succ]
    refine wpAnyH_take (i := 9) (oi := ?oi210) (v := (.agg #[.int .u64 x2, .int .u64 x3])) ?hi210 (by kernel_rfl) (by kernel_rfl) (by kernel_rfl) (fun _ _ _ h => h) ?hy210 (by assumption) ?rest210
    case hi210 => (simp only [List.getElem?_toArray, List.getElem?_cons_succ, List.getElem?_cons_zero]; rfl)
    case hy210 => exact Or.inl ⟨by rfl, fun w' hS => by go_simp⟩
    try simp only [Act.put, List.setIfInBounds_toArray, List.set_cons_zero, List.set_cons_succ]
    refine wpAnyH_ready (rs := [10, 11]) (by kernel_rfl) (by simp) ?_
    refine AllReadyH.cons (o := ?oo211_0) ?hi211_0 (fun K hK => ?_) (AllReadyH.cons (o := ?oo211_1) ?hi211_1 (fun K hK => ?_) AllReadyH.nil)
    case hi211_0 => (simp only [List.getElem?_toArray, List.getElem?_cons_succ, List.getElem?_cons_zero]; rfl)
    case hi211_1 => (simp only [List.getElem?_toArray, List.getElem?_cons_succ, List.getElem?_cons_zero]; rfl)
    ·
      go_simp
      refine hK.out _ _ (by refine KS.out _ ?_; repeat (first | exact Below.refl _ _ | refine Below.drew ?_ | (refine Below.alloc ?_ (by first | omega | (simp; omega)) _) | (refine Below.setCell ?_ (by first | omega | (simp; omega)) _))) (fun hHeld => ?_)
      clear hK K
      try simp only [Act.put, List.setIfInBounds_toArray, List.set_cons_zero, List.set_cons_succ]
      refine wpAnyH_ready (rs := [11]) (by kernel_rfl) (by simp) ?_
      refine AllReadyH.cons (o := ?oo212_0) ?hi212_0 (fun K hK => ?_) AllReadyH.nil
      case hi212_0 => (simp only [List.getElem?_toArray, List.getElem?_cons_succ, List.getElem?_cons_zero]; rfl)
      go_simp
      refine hK.out _ _ (by refine KS.out _ ?_; repeat (first | exact Below.refl _ _ | refine Below.drew ?_ | (refine Below.alloc ?_ (by first | omega | (simp; omega)) _) | (refine Below.setCell ?_ (by first | omega | (simp; omega)) _))) (fun hHeld => ?_)
      clear hK K
      try simp only [Act.put, List.setIfInBounds_toArray, List.set_cons_zero, List.set_cons_succ]
      refine wpAnyH_ready (rs := [12]) (by kernel_rfl) (by simp) ?_
      refine AllReadyH.cons (o := ?oo213_0) ?hi213_0 (fun K hK => ?_) AllReadyH.nil
      case hi213_0 => (simp only [List.getElem?_toArray, List.getElem?_cons_succ, List.getElem?_cons_zero]; rfl)
      go_simp
      refine hK.out _ _ (by refine KS.out _ ?_; repeat (first | exact Below.refl _ _ | refine Below.drew ?_ | (refine Below.alloc ?_ (by first | omega | (simp; omega)) _) | (refine Below.setCell ?_ (by first | omega | (simp; omega)) _))) (fun hHeld => ?_)
      clear hK K
      try simp only [Act.put, List.setIfInBounds_toArray, List.set_cons_zero, List.set_cons_succ]
      refine wpAnyH_ready (rs := [13]) (by kernel_rfl) (by simp) ?_
      refine AllReadyH.cons (o := ?oo214_0) ?hi214_0 (fun K hK => ?_) AllReadyH.nil
      case hi214_0 => (simp only [List.getElem?_toArray, List.getElem?_cons_succ, List.getElem?_cons_zero]; rfl)
      go_simp
      refine hK.out _ _ (by refine KS.out _ ?_; repeat (first | exact Below.refl _ _ | refine Below.drew ?_ | (refine Below.alloc ?_ (by first | omega | (simp; omega)) _) | (refine Below.setCell ?_ (by first | omega | (simp; omega)) _))) (fun hHeld => ?_)
      clear hK K
      try simp only [Act.put, List.setIfInBounds_toArray, List.set_cons_zero, List.set_cons_succ]
      refine wpAnyH_done (by kernel_rfl) ?_ _
      refine NoPanic.normal ?_
      have HL : Below N W1 (((W1.alloc (.cells #[.int .u64 x0, .int .u64 x1] 26)).alloc (.cells #[.int .u64 x2, .int .u64 x3] 26)).drew) := (((Below.refl N W1).alloc (by omega) _).alloc (by simp; omega) _).drew
      have DA : Hid (Duo (((W1.alloc (.cells #[.int .u64 x0, .int .u64 x1] 26)).alloc (.cells #[.int .u64 x2, .int .u64 x3] 26)).drew) N 26 (.int .u64 x0) (.int .u64 x1)) := Lib.hid (by rw [← hs0]; exact duo_fst2 W1 x0 x1 (.cells #[.int .u64 x2, .int .u64 x3] 26))
      have DB : Hid (Duo (((W1.alloc (.cells #[.int .u64 x0, .int .u64 x1] 26)).alloc (.cells #[.int .u64 x2, .int .u64 x3] 26)).drew) (N + 1) 26 (.int .u64 x2) (.int .u64 x3)) := Lib.hid (by rw [← hs0]; exact duo_snd2 W1 (.cells #[.int .u64 x0, .int .u64 x1] 26) x2 x3)
      have FF : Hid (Four (((W1.alloc (.cells #[.int .u64 x0, .int .u64 x1] 26)).alloc (.cells #[.int .u64 x2, .int .u64 x3] 26)).drew) w.heap.size 23 (.int .u64 x0) (.int .u64 x1) (.int .u64 x2) (.int .u64 x3)) := Lib.hid ((HL.block _ flt).trans hF)
      have HB1 : Hid (Below w.heap.size w (((W1.alloc (.cells #[.int .u64 x0, .int .u64 x1] 26)).alloc (.cells #[.int .u64 x2, .int .u64 x3] 26)).drew)) := Lib.hid (HB0.out.trans (HL.mono (Nat.le_of_lt flt)))
      have D7' : Hid (Duo (((W1.alloc (.cells #[.int .u64 x0, .int .u64 x1] 26)).alloc (.cells #[.int .u64 x2, .int .u64 x3] 26)).drew) B7 25 (.int .u64 x0) (.int .u64 x1)) := Lib.hid (Duo.keep D7.out HL (by have := D7.out.lt; omega))
      have D8' : Hid (Duo (((W1.alloc (.cells #[.int .u64 x0, .int .u64 x1] 26)).alloc (.cells #[.int .u64 x2, .int .u64 x3] 26)).drew) B8 25 (.int .u64 x2) (.int .u64 x3)) := Lib.hid (Duo.keep D8.out HL (by have := D8.out.lt; omega))
      clear hHeld KS S0 KD HL hs0 flt
      generalize (((W1.alloc (.cells #[.int .u64 x0, .int .u64 x1] 26)).alloc (.cells #[.int .u64 x2, .int .u64 x3] 26)).drew) = W2 at DA DB FF HB1 D7' D8' ⊢
      generalize N + 1 = PB at DA DB ⊢
      generalize N = PA at DA DB ⊢
      revert D8'
      revert D7'
      revert HB1
      revert FF
      revert DB
      revert DA
      revert W2
      revert PB
      revert PA
      exact KEY3
    ·
      go_simp
      refine hK.out _ _ (by refine KS.out _ ?_; repeat (first | exact Below.refl _ _ | refine Below.drew ?_ | (refine Below.alloc ?_ (by first | omega | (simp; omega)) _) | (refine Below.setCell ?_ (by first | omega | (simp; omega)) _))) (fun hHeld => ?_)
      clear hK K
      try simp only [Act.put, List.setIfInBounds_toArray, List.set_cons_zero, List.set_cons_succ]
      refine wpAnyH_ready (rs := [10]) (by kernel_rfl) (by simp) ?_
      refine AllReadyH.cons (o := ?oo215_0) ?hi215_0 (fun K hK => ?_) AllReadyH.nil
      case hi215_0 => (simp only [List.getElem?_toArray, List.getElem?_cons_succ, List.getElem?_cons_zero]; rfl)
      go_simp
      refine hK.out _ _ (by refine KS.out _ ?_; repeat (first | exact Below.refl _ _ | refine Below.drew ?_ | (refine Below.alloc ?_ (by first | omega | (simp; omega)) _) | (refine Below.setCell ?_ (by first | omega | (simp; omega)) _))) (fun hHeld => ?_)
      clear hK K
      try simp only [Act.put, List.setIfInBounds_toArray, List.set_cons_zero, List.set_cons_succ]
      refine wpAnyH_ready (rs := [12]) (by kernel_rfl) (by simp) ?_
      refine AllReadyH.cons (o := ?oo216_0) ?hi216_0 (fun K hK => ?_) AllReadyH.nil
      case hi216_0 => (simp only [List.getElem?_toArray, List.getElem?_cons_succ, List.getElem?_cons_zero]; rfl)
      go_simp
      refine hK.out _ _ (by refine KS.out _ ?_; repeat (first | exact Below.refl _ _ | refine Below.drew ?_ | (refine Below.alloc ?_ (by first | omega | (simp; omega)) _) | (refine Below.setCell ?_ (by first | omega | (simp; omega)) _))) (fun hHeld => ?_)
      clear hK K
      try simp only [Act.put, List.setIfInBounds_toArray, List.set_cons_zero, List.set_cons_succ]
      refine wpAnyH_ready (rs := [13]) (by kernel_rfl) (by simp) ?_
      refine AllReadyH.cons (o := ?oo217_0) ?hi217_0 (fun K hK => ?_) AllReadyH.nil
      case hi217_0 => (simp only [List.getElem?_toArray, List.getElem?_cons_succ, List.getElem?_cons_zero]; rfl)
      go_simp
      refine hK.out _ _ (by refine KS.out _ ?_; repeat (first | exact Below.refl _ _ | refine Below.drew ?_ | (refine Below.alloc ?_ (by first | omega | (simp; omega)) _) | (refine Below.setCell ?_ (by first | omega | (simp; omega)) _))) (fun hHeld => ?_)
      clear hK K
      try simp only [Act.put, List.setIfInBounds_toArray, List.set_cons_zero, List.set_cons_succ]
      refine wpAnyH_done (by kernel_rfl) ?_ _
      refine NoPanic.normal ?_
      have HL : Below N W1 (((W1.alloc (.cells #[.int .u64 x2, .int .u64 x3] 26)).alloc (.cells #[.int .u64 x0, .int .u64 x1] 26)).drew) := (((Below.refl N W1).alloc (by omega) _).alloc (by simp; omega) _).drew
      have DA : Hid (Duo (((W1.alloc (.cells #[.int .u64 x2, .int .u64 x3] 26)).alloc (.cells #[.int .u64 x0, .int .u64 x1] 26)).drew) (N + 1) 26 (.int .u64 x0) (.int .u64 x1)) := Lib.hid (by rw [← hs0]; exact duo_snd2 W1 (.cells #[.int .u64 x2, .int .u64 x3] 26) x0 x1)
      have DB : Hid (Duo (((W1.alloc (.cells #[.int .u64 x2, .int .u64 x3] 26)).alloc (.cells #[.int .u64 x0, .int .u64 x1] 26)).drew) N 26 (.int .u64 x2) (.int .u64 x3)) := Lib.hid (by rw [← hs0]; exact duo_fst2 W1 x2 x3 (.cells #[.int .u64 x0, .int .u64 x1] 26))
      have FF : Hid (Four (((W1.alloc (.cells #[.int .u64 x2, .int .u64 x3] 26)).alloc (.cells #[.int .u64 x0, .int .u64 x1] 26)).drew) w.heap.size 23 (.int .u64 x0) (.int .u64 x1) (.int .u64 x2) (.int .u64 x3)) := Lib.hid ((HL.block _ flt).trans hF)
      have HB1 : Hid (Below w.heap.size w (((W1.alloc (.cells #[.int .u64 x2, .int .u64 x3] 26)).alloc (.cells #[.int .u64 x0, .int .u64 x1] 26)).drew)) := Lib.hid (HB0.out.trans (HL.mono (Nat.le_of_lt flt)))
      have D7' : Hid (Duo (((W1.alloc (.cells #[.int .u64 x2, .int .u64 x3] 26)).alloc (.cells #[.int .u64 x0, .int .u64 x1] 26)).drew) B7 25 (.int .u64 x0) (.int .u64 x1)) := Lib.hid (Duo.keep D7.out HL (by have := D7.out.lt; omega))
      have D8' : Hid (Duo (((W1.alloc (.cells #[.int .u64 x2, .int .u64 x3] 26)).alloc (.cells #[.int .u64 x0, .int .u64 x1] 26)).drew) B8 25 (.int .u64 x2) (.int .u64 x3)) := Lib.hid (Duo.keep D8.out HL (by have := D8.out.lt; omega))
      clear hHeld KS S0 KD HL hs0 flt
      generalize (((W1.alloc (.cells #[.int .u64 x2, .int .u64 x3] 26)).alloc (.cells #[.int .u64 x0, .int .u64 x1] 26)).drew) = W2 at DA DB FF HB1 D7' D8' ⊢
      generalize N + 1 = PA at DA DB ⊢
      generalize N = PB at DA DB ⊢
      revert D8'
      revert D7'
      revert HB1
      revert FF
      revert DB
      revert DA
      revert W2
      revert PB
      revert PA
      exact KEY3
  case key3 =>
  clear hF c0 c1 c2 c3 HB0 flt0 D7 D8
  intro B9 Bx W2 D9 Dx FF HB1 D7 D8
  clear W1
  have BX := Lib.hid (Boxes.mk FF.out D7.out D8.out D9.out Dx.out)
  clear FF D7 D8 D9 Dx
  go_upto_region 5 with (go_at_call 8; refine (ops_any _ _).mono ?_; rintro e w2 ⟨⟨cs, rfl, hsz, hcs⟩, rfl⟩)
  have HC : Hid (∀ i, i < 18 → ∃ o : ByteArray, (W2.alloc (.cells cs 9)).cell? ⟨W2.heap.size, i, none⟩ = some (.string o)) := Lib.hid fun i hi => by
    obtain ⟨o, ho⟩ := hcs i hi
    exact ⟨o, by rw [cell_of_row _ _ _ _ _ (0, 0) (World.alloc_heap_new W2 _)]; exact ho⟩
  have hlt : W2.heap.size < (W2.alloc (.cells cs 9)).heap.size := by simp
  replace BX := Lib.hid (BX.out.keep ((Below.refl W2.heap.size W2).alloc (Nat.le_refl _) (.cells cs 9)))
  replace HB1 := Lib.hid (HB1.out.alloc HB1.out.size (.cells cs 9))
  clear hsz hcs
  generalize hob : W2.heap.size = ob at *
  generalize W2.alloc (.cells cs 9) = W3 at *
  clear hob
  go_loopw [46] (fun s46 wr => ∃ (i : Nat), s46 = .int .i64 i ∧ i ≤ 18 ∧ Below W3.heap.size W3 wr) (fun s46 _ => 18 - (intOf s46).toNat)
  case atStart => exact ⟨0, rfl, by omega, Below.refl _ _⟩
  case round =>
    obtain ⟨i, rfl, hin, hB⟩ := hrel
    have BX2 := Lib.hid (BX.out.keep hB)
    have HB2 := Lib.hid (HB1.out.trans (hB.mono HB1.out.size))
    have HBr := Lib.hid hB
    clear BX
    by_cases hi2 : i < 18
    · have hi2' : (i : Int) < 18 := by omega
      obtain ⟨o, ho⟩ := HC.out i hi2
      have hoc := (hB.cell (p := ⟨ob, i, none⟩) hlt).trans ho
      clear hB ho HC HB1 HB2 HW HAll HMask
      have CO : Hid (∀ w', Calls Try.prog 9 #[.string o, .agg #[.int .u64 x0, .int .u64 x1], .agg #[.int .u64 x2, .int .u64 x3]] w' fun e w'' => e = .returned (.tuple #[.agg #[.int .u64 ((opB o.toList (x0, x1) (x2, x3)).getD (0, 0)).1, .int .u64 ((opB o.toList (x0, x1) (x2, x3)).getD (0, 0)).2], .bool (opB o.toList (x0, x1) (x2, x3)).isSome]) ∧ Below w'.heap.size w' w'') := Lib.hid fun w' => bOp_any o (x0, x1) (x2, x3) HA.out HBB.out w'
      have CR : Hid (∀ w', Calls Try.prog 10 #[.string o, .agg #[.int .u64 x0, .int .u64 x1], .agg #[.int .u64 x2, .int .u64 x3]] w' fun e w'' => e = .returned (.tuple #[.agg #[.int .u64 ((opB o.toList (x0, x1) (x2, x3)).getD (0, 0)).1, .int .u64 ((opB o.toList (x0, x1) (x2, x3)).getD (0, 0)).2], .bool (opB o.toList (x0, x1) (x2, x3)).isSome]) ∧ Below w'.heap.size w' w'') := Lib.hid fun w' => refBop_any o (x0, x1) (x2, x3) HA.out HBB.out w'
      generalize (opB o.toList (x0, x1) (x2, x3)).isSome = bb at CO CR
      generalize ((opB o.toList (x0, x1) (x2, x3)).getD (0, 0)).1 = u1 at CO CR
      generalize ((opB o.toList (x0, x1) (x2, x3)).getD (0, 0)).2 = u2 at CO CR
      obtain ⟨-, ⟨d0, d1⟩, ⟨e0, e1⟩, -, -⟩ := BX2.out.cells
      go_upto_region 8 with (go_at_call 9; refine (CO.out _).mono ?_; rintro e w4 ⟨rfl, hb4⟩; have HB4 := Lib.hid (hb4.alloc hb4.size (.cells #[.int .u64 u1, .int .u64 u2] 25)); have D13 := Lib.hid (show Duo (w4.alloc (.cells #[.int .u64 u1, .int .u64 u2] 25)) w4.heap.size 25 (.int .u64 u1) (.int .u64 u2) from World.alloc_heap_new _ _))
      generalize w4.alloc (.cells #[.int .u64 u1, .int .u64 u2] 25) = W4 at *
      clear hb4 CO d0 d1 e0 e1 hoc
      have HBx := Lib.hid (HBr.out.trans (HB4.out.mono HBr.out.size))
      obtain ⟨-, -, -, ⟨d0, d1⟩, ⟨e0, e1⟩⟩ := (BX2.out.keep HB4.out).cells
      clear BX2 HB4
      go_upto_region 9 with (go_at_call 10; refine (CR.out _).mono ?_; rintro e w5 ⟨rfl, hb5⟩; have HB5 := Lib.hid (hb5.alloc hb5.size (.cells #[.int .u64 u1, .int .u64 u2] 26)); have D15 := Lib.hid (show Duo (w5.alloc (.cells #[.int .u64 u1, .int .u64 u2] 26)) w5.heap.size 26 (.int .u64 u1) (.int .u64 u2) from World.alloc_heap_new _ _))
      generalize w5.alloc (.cells #[.int .u64 u1, .int .u64 u2] 26) = W5 at *
      clear hb5 CR d0 d1 e0 e1
      have HBy := Lib.hid (HBx.out.trans (HB5.out.mono HBx.out.size))
      have D13' := Lib.hid (Duo.keep D13.out HB5.out D13.out.lt)
      have d0 := D13'.out.c0
      have d1 := D13'.out.c1
      have e0 := D15.out.c0
      have e1 := D15.out.c1
      go_wp2_with fail
      exact ⟨⟨i + 1, by go_num, by omega, HBy.out⟩, by simp [intOf]; omega⟩
    · obtain rfl : i = 18 := by omega
      clear hB HC hlt HB1 hin hi2
      have HR := Lib.hid fun w' => refJoin_any x0 x1 x2 x3 w'
      have HJ := Lib.hid fun w' => Join_any x0 x1 x2 x3 w'
      have HP := Lib.hid fun w' => Point_any n w'
      have HM : Hid (∀ w', Calls Try.prog 17 #[.int .i64 (n % 70)] w' fun e w'' => e = .returned (.int .u64 (maskV (n % 70))) ∧ Below w'.heap.size w' w'') := Lib.hid fun w' => (HMask.out w').mono (by rintro e w'' ⟨rfl, rfl⟩; exact ⟨rfl, Below.refl _ _⟩)
      clear HMask HA HBB
      go_upto_region 13 with fail
      obtain ⟨⟨c0, c1⟩, ⟨d0, d1⟩, ⟨e0, e1⟩, ⟨f0, f1⟩, ⟨g0, g1⟩⟩ := BX2.out.cells
      have kc0 := cell_regrown c0
      have kc1 := cell_regrown c1
      have kd0 := cell_regrown d0
      have kd1 := cell_regrown d1
      have ke0 := cell_regrown e0
      have ke1 := cell_regrown e1
      have kf0 := cell_regrown f0
      have kf1 := cell_regrown f1
      have kg0 := cell_regrown g0
      have kg1 := cell_regrown g1
      have cW : ∀ d os, Calls Try.prog 11 #[] (Go.Sort.grow (redrawn wr d) os) fun e w'' => e = .returned (.bool true) ∧ ∃ p : Regrown, w'' = Go.Sort.grow (redrawn wr p.d) p.os := fun d os => Calls.regrown_of (HW.out _)
      have cJ : ∀ d os, Calls Try.prog 12 #[.agg #[.int .u64 x0, .int .u64 x1], .agg #[.int .u64 x2, .int .u64 x3]] (Go.Sort.grow (redrawn wr d) os) fun e w'' => e = .returned (.agg #[.int .u64 (min x0 x2), .int .u64 (max x1 x3)]) ∧ ∃ p : Regrown, w'' = Go.Sort.grow (redrawn wr p.d) p.os := fun d os => Calls.regrown_of (HJ.out _)
      have cR : ∀ d os, Calls Try.prog 13 #[.agg #[.int .u64 x0, .int .u64 x1], .agg #[.int .u64 x2, .int .u64 x3]] (Go.Sort.grow (redrawn wr d) os) fun e w'' => e = .returned (.agg #[.int .u64 (min x0 x2), .int .u64 (max x1 x3)]) ∧ ∃ p : Regrown, w'' = Go.Sort.grow (redrawn wr p.d) p.os := fun d os => Calls.regrown_of (HR.out _)
      have cP : ∀ d os, Calls Try.prog 15 #[.int .u64 n] (Go.Sort.grow (redrawn wr d) os) fun e w'' => e = .returned (.agg #[.int .u64 n, .int .u64 n]) ∧ ∃ p : Regrown, w'' = Go.Sort.grow (redrawn wr p.d) p.os := fun d os => Calls.regrown_of (HP.out _)
      have cA : ∀ d os, Calls Try.prog 16 #[.int .i64 (n % 70)] (Go.Sort.grow (redrawn wr d) os) fun e w'' => e = .returned (.agg #[.int .u64 0, .int .u64 (maskV (n % 70))]) ∧ ∃ p : Regrown, w'' = Go.Sort.grow (redrawn wr p.d) p.os := fun d os => Calls.regrown_of (HAll.out _)
      have cM : ∀ d os, Calls Try.prog 17 #[.int .i64 (n % 70)] (Go.Sort.grow (redrawn wr d) os) fun e w'' => e = .returned (.int .u64 (maskV (n % 70))) ∧ ∃ p : Regrown, w'' = Go.Sort.grow (redrawn wr p.d) p.os := fun d os => Calls.regrown_of (HM.out _)
      clear HW HJ HR HP HAll HM HBr BX2
      generalize min x0 x2 = jl at *
      generalize max x1 x3 = jh at *
      generalize maskV (n % 70) = mk at *
      by_cases h1 : x0 ≤ n
      · by_cases h2 : n ≤ x1
        · have hc : True := trivial
          have cH : ∀ d os, Calls Try.prog 14 #[.agg #[.int .u64 x0, .int .u64 x1], .int .u64 n] (Go.Sort.grow (redrawn wr d) os) fun e w'' => e = .returned (.bool true) ∧ ∃ p : Regrown, w'' = Go.Sort.grow (redrawn wr p.d) p.os := fun d os => by
            have h := Has_any x0 x1 n (Go.Sort.grow (redrawn wr d) os)
            rw [decide_eq_true h1, decide_eq_true h2, Bool.and_true] at h
            exact Calls.regrown_of h
          refine wp_region_quiet_below (by kernel_rfl) (by kernel_rfl) ?_
          repeat (with_reducible refine wpQuiet_step (fun K hK => ?_); go_simp; first | (with_reducible refine hK _ ?_; clear hK K) | (apply Exists.intro; refine ⟨fun _ => ?_, hK _ ?_⟩; (first | exact cW _ _ | exact cJ _ _ | exact cR _ _ | exact cP _ _ | exact cA _ _ | exact cM _ _ | exact cH _ _); clear hK K))
          refine wpQuiet_nil ?_
          intro _ hw'
          obtain ⟨⟨dq, osq⟩, hw''⟩ := hw'
          subst hw''
          go_wp2_with fail
          go_ret
          exact ⟨by simp, HB2.out.trans ((below_regrown wr dq osq).mono HB2.out.size)⟩
        · have hc : x1 < n := Int.not_le.1 h2
          have cH : ∀ d os, Calls Try.prog 14 #[.agg #[.int .u64 x0, .int .u64 x1], .int .u64 n] (Go.Sort.grow (redrawn wr d) os) fun e w'' => e = .returned (.bool false) ∧ ∃ p : Regrown, w'' = Go.Sort.grow (redrawn wr p.d) p.os := fun d os => by
            have h := Has_any x0 x1 n (Go.Sort.grow (redrawn wr d) os)
            rw [decide_eq_true h1, decide_eq_false h2, Bool.and_false] at h
            exact Calls.regrown_of h
          refine wp_region_quiet_below (by kernel_rfl) (by kernel_rfl) ?_
          repeat (with_reducible refine wpQuiet_step (fun K hK => ?_); go_simp; first | (with_reducible refine hK _ ?_; clear hK K) | (apply Exists.intro; refine ⟨fun _ => ?_, hK _ ?_⟩; (first | exact cW _ _ | exact cJ _ _ | exact cR _ _ | exact cP _ _ | exact cA _ _ | exact cM _ _ | exact cH _ _); clear hK K))
          refine wpQuiet_nil ?_
          intro _ hw'
          obtain ⟨⟨dq, osq⟩, hw''⟩ := hw'
          subst hw''
          go_wp2_with fail
          go_ret
          exact ⟨by simp, HB2.out.trans ((below_regrown wr dq osq).mono HB2.out.size)⟩
      · have hc : n < x0 := Int.not_le.1 h1
        have cH : ∀ d os, Calls Try.prog 14 #[.agg #[.int .u64 x0, .int .u64 x1], .int .u64 n] (Go.Sort.grow (redrawn wr d) os) fun e w'' => e = .returned (.bool false) ∧ ∃ p : Regrown, w'' = Go.Sort.grow (redrawn wr p.d) p.os := fun d os => by
          have h := Has_any x0 x1 n (Go.Sort.grow (redrawn wr d) os)
          rw [decide_eq_false h1, Bool.false_and] at h
          exact Calls.regrown_of h
        refine wp_region_quiet_below (by kernel_rfl) (by kernel_rfl) ?_
        repeat (with_reducible refine wpQuiet_step (fun K hK => ?_); go_simp; first | (with_reducible refine hK _ ?_; clear hK K) | (apply Exists.intro; refine ⟨fun _ => ?_, hK _ ?_⟩; (first | exact cW _ _ | exact cJ _ _ | exact cR _ _ | exact cP _ _ | exact cA _ _ | exact cM _ _ | exact cH _ _); clear hK K))
        refine wpQuiet_nil ?_
        intro _ hw'
        obtain ⟨⟨dq, osq⟩, hw''⟩ := hw'
        subst hw''
        go_wp2_with fail
        go_ret
        exact ⟨by simp, HB2.out.trans ((below_regrown wr dq osq).mono HB2.out.size)⟩
end Go.Proofs.Ytoengahfkfmfeaa
