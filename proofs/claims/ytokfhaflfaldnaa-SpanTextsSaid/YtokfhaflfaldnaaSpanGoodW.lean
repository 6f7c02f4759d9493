/- Layer 5's law SpanGood. -/
import Derived.Test.YtokfhaflfaldnaaSpanG
import Derived.Test.YtokfhaflfaldnaaArr3
namespace Go.Proofs.Ytokfhaflfaldnaa
open Go.ChangeShapes Go.WideShapes Go.ChangeAt Go.RowKit
set_option linter.unusedVariables false
attribute [local go_sem ↓] Go.wp_at_zero Go.wp_at_succ

theorem i64_of {x : Int} (h : (Lit.int .i64 x).wf = true) : I64 x := by
  simpa [Lit.wf, IntKind.min, IntKind.max, IntKind.bits, IntKind.signed, I64] using h
theorem Eight.row {g : Nat} {z : Nat → Int} {w : World} (h : Eight g z w) {k : Nat} (hk : k < 2) :
    ∃ y0 y1 y2 y3 : Int, (I64 y0 ∧ I64 y1 ∧ I64 y2 ∧ I64 y3) ∧ w.cell? ⟨g, k * 4, none⟩ = some (.int .i64 y0) ∧ w.cell? ⟨g, k * 4 + 1, none⟩ = some (.int .i64 y1) ∧ w.cell? ⟨g, k * 4 + 2, none⟩ = some (.int .i64 y2) ∧ w.cell? ⟨g, k * 4 + 3, none⟩ = some (.int .i64 y3) :=
  ⟨_, _, _, _, ⟨h.2.2 _, h.2.2 _, h.2.2 _, h.2.2 _⟩, h.2.1 _ (by omega), h.2.1 _ (by omega), h.2.1 _ (by omega), h.2.1 _ (by omega)⟩

/-- The row of a round, and a span of its first two numbers. -/
def Four (p : Nat) (y0 y1 y2 y3 : Int) (w : World) : Prop :=
  w.cell? ⟨p, 0, none⟩ = some (.int .i64 y0) ∧ w.cell? ⟨p, 1, none⟩ = some (.int .i64 y1) ∧ w.cell? ⟨p, 2, none⟩ = some (.int .i64 y2) ∧ w.cell? ⟨p, 3, none⟩ = some (.int .i64 y3) ∧ p < w.heap.size
theorem Four.keep {p : Nat} {y0 y1 y2 y3 : Int} {w w' : World} (h : Four p y0 y1 y2 y3 w) (hb : Below w.heap.size w w') : Four p y0 y1 y2 y3 w' := by
  obtain ⟨h1, h2, h3, h4, h5⟩ := h
  exact ⟨(hb.cell (show p < _ from h5)).trans h1, (hb.cell (show p < _ from h5)).trans h2, (hb.cell (show p < _ from h5)).trans h3, (hb.cell (show p < _ from h5)).trans h4, Nat.lt_of_lt_of_le h5 hb.size⟩
theorem Four.mk {w : World} {y0 y1 y2 y3 : Int} {t : TypeId} : Four w.heap.size y0 y1 y2 y3 (w.alloc (.cells #[.int .i64 y0, .int .i64 y1, .int .i64 y2, .int .i64 y3] t)) := by
  obtain ⟨h1, h2, h3, h4⟩ := arr4_in (w := w) (v0 := .int .i64 y0) (v1 := .int .i64 y1) (v2 := .int .i64 y2) (v3 := .int .i64 y3) (t := t)
  exact ⟨h1, h2, h3, h4, by simp⟩
theorem Four.alloc {p : Nat} {y0 y1 y2 y3 : Int} {w : World} (h : Four p y0 y1 y2 y3 w) (o : Obj) : Four p y0 y1 y2 y3 (w.alloc o) := h.keep ((Below.refl _ _).alloc (Nat.le_refl _) _)
theorem Eight.alloc {g : Nat} {z : Nat → Int} {w : World} (h : Eight g z w) (o : Obj) : Eight g z (w.alloc o) := h.keep ((Below.refl _ _).alloc (Nat.le_refl _) _)
/-- A span in a block of its own. -/
def One (p : Nat) (a l : Int) (w : World) : Prop := w.cell? ⟨p, 0, none⟩ = some (.int .i64 a) ∧ w.cell? ⟨p, 1, none⟩ = some (.int .i64 l) ∧ p < w.heap.size
theorem One.keep {p : Nat} {a l : Int} {w w' : World} (h : One p a l w) (hb : Below w.heap.size w w') : One p a l w' :=
  ⟨(hb.cell (show p < _ from h.2.2)).trans h.1, (hb.cell (show p < _ from h.2.2)).trans h.2.1, Nat.lt_of_lt_of_le h.2.2 hb.size⟩
theorem One.mk {w : World} {a l : Int} {t : TypeId} : One w.heap.size a l (w.alloc (.cells #[.int .i64 a, .int .i64 l] t)) := ⟨box_in.1, box_in.2, by simp⟩
theorem One.alloc {p : Nat} {a l : Int} {w : World} (h : One p a l w) (o : Obj) : One p a l (w.alloc o) := h.keep ((Below.refl _ _).alloc (Nat.le_refl _) _)

theorem goodS_keep {w0 w1 w2 : World} {p g : Nat} {z : Nat → Int} {y0 y1 y2 y3 : Int} (hb : Below w1.heap.size w1 w2) (h0 : w1.cell? ⟨p, 0, none⟩ = some (.int .i64 y0)) (h1 : w1.cell? ⟨p, 1, none⟩ = some (.int .i64 y1)) (h2 : w1.cell? ⟨p, 2, none⟩ = some (.int .i64 y2)) (h3 : w1.cell? ⟨p, 3, none⟩ = some (.int .i64 y3))
    (h4 : w1.cell? ⟨p + 1, 0, none⟩ = some (.int .i64 y0)) (h5 : w1.cell? ⟨p + 1, 1, none⟩ = some (.int .i64 y1)) (h6 : p + 1 < w1.heap.size) (h7 : Eight g z w1) (h8 : Below w0.heap.size w0 w1) :
    w2.cell? ⟨p, 0, none⟩ = some (.int .i64 y0) ∧ w2.cell? ⟨p, 1, none⟩ = some (.int .i64 y1) ∧ w2.cell? ⟨p, 2, none⟩ = some (.int .i64 y2) ∧ w2.cell? ⟨p, 3, none⟩ = some (.int .i64 y3) ∧ w2.cell? ⟨p + 1, 0, none⟩ = some (.int .i64 y0) ∧ w2.cell? ⟨p + 1, 1, none⟩ = some (.int .i64 y1) ∧ p + 1 < w2.heap.size ∧ Eight g z w2 ∧ Below w0.heap.size w0 w2 := by
  obtain ⟨k0, k1, k2, k3, _⟩ := Four.keep ⟨h0, h1, h2, h3, by omega⟩ hb
  obtain ⟨k4, k5, k6⟩ := One.keep ⟨h4, h5, h6⟩ hb
  exact ⟨k0, k1, k2, k3, k4, k5, k6, h7.keep hb, chain h8 (Nat.le_refl _) hb⟩

set_option maxRecDepth 100000 in
set_option maxHeartbeats 2000000 in
theorem SpanGood_walk (x0a x0b x0c x0d : Int) (a1 : ByteArray) (w : World) (w0a : (Lit.int .i64 x0a).wf = true) (w0b : (Lit.int .i64 x0b).wf = true) (w0c : (Lit.int .i64 x0c).wf = true) (w0d : (Lit.int .i64 x0d).wf = true) (w1 : a1.size ≤ maxLen) (z1 : a1.size ≤ reachBytes) :
    Calls Try.prog 3 #[.agg #[.int .i64 x0a, .int .i64 x0b, .int .i64 x0c, .int .i64 x0d], .string a1] w fun e w' => e = .returned (.bool true) ∧ Below w.heap.size w w' := by
  unfold reachBytes at z1
  have z1' : a1.size ≤ 140737488355328 := by omega
  have HS := Lib.hid (fun w => some_any x0a x0b x0c x0d (i64_of w0a) (i64_of w0b) (i64_of w0c) (i64_of w0d) w)
  clear w0a w0b w0c w0d w1 z1
  go_enter Try.func3, Try.ntmps3
  go_wp2_with fail
  refine (HS.out _).mono ?_; rintro e wa ⟨g, z, rfl, hg, h8, ba⟩
  have bb := chain (below_box w _) (Nat.le_refl _) ba
  have hwg : w.heap.size < g := by simp at hg; omega
  clear hg
  go_wp2_with fail
  go_loopw [13] (fun i wr => ∃ k : Nat, k ≤ 2 ∧ i = .int .i64 k ∧ Eight g z wr ∧ Below w.heap.size w wr) (fun i _ => 2 - (intOf i).toNat)
  case atStart => exact ⟨0, by omega, rfl, h8, bb⟩
  case round =>
    clear h8 bb ba
    obtain ⟨k, hk, rfl, h8, hb⟩ := hrel
    by_cases hlt : k < 2
    · obtain ⟨y0, y1, y2, y3, ⟨i0, i1, i2, i3⟩, c0, c1, c2, c3⟩ := h8.row hlt
      have f4 := (Four.mk (w := wr) (y0 := y0) (y1 := y1) (y2 := y2) (y3 := y3) (t := 22)).alloc (.cells #[.int .i64 y0, .int .i64 y1] 26)
      have f1 := One.mk (w := wr.alloc (.cells #[.int .i64 y0, .int .i64 y1, .int .i64 y2, .int .i64 y3] 22)) (a := y0) (l := y1) (t := 26)
      have f8 := (h8.alloc (.cells #[.int .i64 y0, .int .i64 y1, .int .i64 y2, .int .i64 y3] 22)).alloc (.cells #[.int .i64 y0, .int .i64 y1] 26)
      have fb := chain hb (Nat.le_refl _) (below_two wr (.cells #[.int .i64 y0, .int .i64 y1, .int .i64 y2, .int .i64 y3] 22) (.cells #[.int .i64 y0, .int .i64 y1] 26))
      rw [World.size_alloc] at f1
      have HG := Lib.hid (fun w => Good_any y0 y1 y2 i0 i1 i2 w)
      have HG' := Lib.hid (fun w => refGood_any y0 y1 y2 i0 i1 i2 w)
      have HE := Lib.hid (fun w => End_any y0 y1 i0 i1 w)
      have HE' := Lib.hid (fun w => refEnd_any y0 y1 i0 i1 w)
      have HT := Lib.hid (fun w => Text_any y0 y1 a1 i0 i1 z1' w)
      have HT' := Lib.hid (fun w => refText_any y0 y1 a1 i0 i1 z1' w)
      generalize gdB y0 y1 y2 = vg at HG HG'
      generalize endI y0 y1 = ve at HE HE'
      generalize textV y0 y1 a1 = vt at HT HT'
      go_wp2_with fail
      generalize (wr.alloc (.cells #[.int .i64 y0, .int .i64 y1, .int .i64 y2, .int .i64 y3] 22)).alloc (.cells #[.int .i64 y0, .int .i64 y1] 26) = W at *
      generalize wr.heap.size = p at *
      obtain ⟨d0, d1, d2, d3, _⟩ := f4
      obtain ⟨d4, d5, d6⟩ := f1
      clear c0 c1 c2 c3 h8 hb
      go_region_held3 (fun w' => w'.cell? ⟨p, 0, none⟩ = some (.int .i64 y0) ∧ w'.cell? ⟨p, 1, none⟩ = some (.int .i64 y1) ∧ w'.cell? ⟨p, 2, none⟩ = some (.int .i64 y2) ∧ w'.cell? ⟨p, 3, none⟩ = some (.int .i64 y3) ∧ w'.cell? ⟨p + 1, 0, none⟩ = some (.int .i64 y0) ∧ w'.cell? ⟨p + 1, 1, none⟩ = some (.int .i64 y1) ∧ p + 1 < w'.heap.size ∧ Eight g z w' ∧ Below w.heap.size w w')
        (first | exact ⟨d0, d1, d2, d3, d4, d5, d6, f8, below_drew fb⟩ | (go_split_ands; exact goodS_keep (by assumption) (by assumption) (by assumption) (by assumption) (by assumption) (by assumption) (by assumption) (by assumption) (by assumption) (by assumption)) | (go_split_ands; (repeat' apply And.intro) <;> assumption) | go_keep)
        (first | ((with_reducible refine (HG.out _).mono ?_); rintro e4 w4 ⟨rfl, b4⟩) | ((with_reducible refine (HG'.out _).mono ?_); rintro e4 w4 ⟨rfl, rfl⟩) | ((with_reducible refine (HE.out _).mono ?_); rintro e4 w4 ⟨rfl, b4⟩) | ((with_reducible refine (HE'.out _).mono ?_); rintro e4 w4 ⟨rfl, rfl⟩) | ((with_reducible refine (HT.out _).mono ?_); rintro e4 w4 ⟨rfl, b4⟩) | ((with_reducible refine (HT'.out _).mono ?_); rintro e4 w4 ⟨rfl, b4⟩))
      rename_i hHeld
      obtain ⟨e0, e1, e2, e3, e4, e5, e6, e8, eb⟩ := hHeld
      clear d0 d1 d2 d3 d4 d5 d6 f8 fb HG HG' HE HE' HT HT'
      have e7 : p < w4.heap.size := by omega
      unfold I64 at i3
      obtain ⟨i31, i32⟩ := i3
      by_cases hm0 : y3 < 0
      · have HO := Lib.hid (fun w => Of_out y3 (.inl hm0) w)
        have hd : decide (0 ≤ y3) = false := by simpa using hm0
        go_wp2_with fail
        refine (HO.out _).mono ?_; rintro e w5 ⟨rfl, b5⟩
        have eb5 := chain eb (Nat.le_refl _) b5
        have q3 := (b5.cell (p := ⟨p, 3, none⟩) e7).trans e3
        have hp5 := Nat.lt_of_lt_of_le e7 b5.size
        go_wp2_with fail
        go_roundw
        case rel => exact ⟨k + 1, by omega, by go_num, (e8.keep b5).alloc _, eb5.alloc eb5.size _⟩
        case measure => simp [intOf]; omega
      have hm0' : 0 ≤ y3 := by omega
      have hd : decide (0 ≤ y3) = true := by simpa using hm0'
      by_cases hm1 : 4611686018427387904 < y3
      · have HO := Lib.hid (fun w => Of_out y3 (.inr hm1) w)
        have hd1 : decide (y3 ≤ 4611686018427387904) = false := by simpa using hm1
        clear hm0
        go_wp2_with fail
        refine (HO.out _).mono ?_; rintro e w5 ⟨rfl, b5⟩
        have eb5 := chain eb (Nat.le_refl _) b5
        have q3 := (b5.cell (p := ⟨p, 3, none⟩) e7).trans e3
        have hp5 := Nat.lt_of_lt_of_le e7 b5.size
        go_wp2_with fail
        go_roundw
        case rel => exact ⟨k + 1, by omega, by go_num, (e8.keep b5).alloc _, eb5.alloc eb5.size _⟩
        case measure => simp [intOf]; omega
      · have hm1' : y3 ≤ 4611686018427387904 := by omega
        have HO := Lib.hid (fun w => Of_in y3 hm0' hm1' w)
        have hd1 : decide (y3 ≤ 4611686018427387904) = true := by simpa using hm1'
        clear hm0 hm1
        go_wp2_with fail
        refine (HO.out _).mono ?_; rintro e w5 ⟨rfl, b5⟩
        have eb5 := chain eb (Nat.le_refl _) b5
        have q3 := (b5.cell (p := ⟨p, 3, none⟩) e7).trans e3
        have hp5 := Nat.lt_of_lt_of_le e7 b5.size
        go_wp2_with fail
        go_roundw
        case rel => exact ⟨k + 1, by omega, by go_num, (e8.keep b5).alloc _, eb5.alloc eb5.size _⟩
        case measure => simp [intOf]; omega
    · obtain rfl : k = 2 := by omega
      have HW := Lib.hid wakes_any
      go_wp2_with fail
      refine (HW.out _).mono ?_; rintro e w5 ⟨rfl, b5⟩
      go_wp2_with fail
      go_ret
      exact ⟨rfl, chain hb (Nat.le_refl _) b5⟩

end Go.Proofs.Ytokfhaflfaldnaa
