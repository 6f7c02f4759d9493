/- Layer 5's law SpanTexts. -/
import Derived.Test.YtokfhaflfaldnaaSpanWithinW
import Derived.Deep.RegionWith
namespace Go.Proofs.Ytokfhaflfaldnaa
open Go.ChangeShapes Go.WideShapes Go.ChangeAt Go.RowKit
set_option linter.unusedVariables false
attribute [local go_sem ↓] Go.wp_at_zero Go.wp_at_succ

theorem extract_cat (s : ByteArray) (q j m : Nat) (h : j ≤ m) : s.extract q (q + j) ++ s.extract (q + j) (q + m) = s.extract q (q + m) := by
  apply ByteArray.ext
  simp only [ByteArray.data_append, ByteArray.data_extract]
  rw [Array.extract_append_extract]
  congr 1 <;> omega
theorem extract_len (s : ByteArray) (q m : Nat) (h : q + m ≤ s.size) : (s.extract q (q + m)).size = m := by
  rw [ByteArray.size_extract]
  omega

/-- What a round of the law computes: the place, the two lengths, and the part. -/
theorem texts_facts (s : ByteArray) (X Y u : Int) (hs : s.size ≤ 140737488351232) (hX : 0 ≤ X) (hY : 0 ≤ Y) (hu : 0 ≤ u) :
    ∃ (q r m j b0 b1 : Nat) (q' r' : Int) (t ta tb : ByteArray), (q ≤ 140737488351232 ∧ r ≤ 140737488351232 ∧ m ≤ 140737488351232 ∧ j ≤ m ∧ t.size = m ∧ ta.size + tb.size ≤ 140737488351232) ∧ Hid (ta ++ tb = t) ∧
      Hid (X.tmod ((s.size : Int) + 1) = q) ∧ Hid (Y % ((r : Int) + 1) = m) ∧ Hid (u % ((m : Int) + 1) = j) ∧
      Hid (∀ w, Calls Try.prog 14 #[.int .i64 s.size] w fun e w' => e = .returned (spanV 0 s.size) ∧ Below w.heap.size w w') ∧
      Hid (∀ w, Calls Try.prog 18 #[.agg #[.int .i64 0, .int .i64 s.size], .int .i64 q] w fun e w' => e = pairV q r 0 ∧ Below w.heap.size w w') ∧
      Hid (∀ w, Calls Try.prog 16 #[.agg #[.int .i64 q, .int .i64 r], .int .u64 m] w fun e w' => e = takeV q m q' r' 0 ∧ Below w.heap.size w w') ∧
      Hid (∀ w, Calls Try.prog 16 #[.agg #[.int .i64 q, .int .i64 m], .int .u64 j] w fun e w' => e = takeV q j b0 b1 0 ∧ Below w.heap.size w w') ∧
      Hid (∀ w, Calls Try.prog 12 #[.agg #[.int .i64 q, .int .i64 m], .string s] w fun e w' => e = .returned (.string t) ∧ Below w.heap.size w w') ∧
      Hid (∀ w, Calls Try.prog 12 #[.agg #[.int .i64 q, .int .i64 j], .string s] w fun e w' => e = .returned (.string ta) ∧ Below w.heap.size w w') ∧
      Hid (∀ w, Calls Try.prog 12 #[.agg #[.int .i64 b0, .int .i64 b1], .string s] w fun e w' => e = .returned (.string tb) ∧ Below w.heap.size w w') := by
  obtain ⟨X, rfl⟩ := Int.eq_ofNat_of_zero_le hX
  obtain ⟨Y, rfl⟩ := Int.eq_ofNat_of_zero_le hY
  obtain ⟨u, rfl⟩ := Int.eq_ofNat_of_zero_le hu
  obtain ⟨q, hq, hq1⟩ : ∃ q : Nat, X % (s.size + 1) = q ∧ q ≤ s.size := ⟨_, rfl, Nat.le_of_lt_succ (Nat.mod_lt _ (Nat.succ_pos _))⟩
  obtain ⟨r, hr⟩ : ∃ r : Nat, s.size = q + r := ⟨s.size - q, by omega⟩
  obtain ⟨m, hm, hm1⟩ : ∃ m : Nat, Y % (r + 1) = m ∧ m ≤ r := ⟨_, rfl, Nat.le_of_lt_succ (Nat.mod_lt _ (Nat.succ_pos _))⟩
  obtain ⟨j, hj, hj1⟩ : ∃ j : Nat, u % (m + 1) = j ∧ j ≤ m := ⟨_, rfl, Nat.le_of_lt_succ (Nat.mod_lt _ (Nat.succ_pos _))⟩
  obtain ⟨i, hi⟩ : ∃ i : Nat, m = j + i := ⟨m - j, by omega⟩
  have c1 := From_ok 0 s.size q (by unfold I64; omega) (by unfold I64; omega) (by unfold Gd; omega) (by omega) (by omega)
  rw [show (0 : Int) + (s.size : Int) - (q : Int) = (r : Int) from by omega] at c1
  have c2 := Take_ok q m j (by unfold I64; omega) (by unfold I64; omega) (by omega) (by unfold Gd; omega) (by omega)
  rw [show (q : Int) + (j : Int) = ((q + j : Nat) : Int) from by omega, show (m : Int) - (j : Int) = (i : Int) from by omega] at c2
  have e1 : (s.extract q (q + j)).size = j := extract_len s q j (by omega)
  have e2 : (s.extract (q + j) (q + j + i)).size = i := extract_len s (q + j) i (by omega)
  refine ⟨q, r, m, j, q + j, i, _, _, s.extract q (q + m), s.extract q (q + j), s.extract (q + j) (q + j + i), ⟨by omega, by omega, by omega, hj1, extract_len s q m (by omega), by omega⟩, Lib.hid ?_, Lib.hid ?_, Lib.hid ?_, Lib.hid ?_,
    Lib.hid (Of_in s.size (by omega) (by omega)), Lib.hid c1, Lib.hid (Take_ok q r m (by unfold I64; omega) (by unfold I64; omega) (by omega) (by unfold Gd; omega) (by omega)), Lib.hid c2, Lib.hid fun w => ?_, Lib.hid fun w => ?_, Lib.hid fun w => ?_⟩
  · rw [show q + j + i = q + m from by omega]; exact extract_cat s q j m hj1
  · rw [Int.tmod_eq_emod_of_nonneg (by omega), ← hq]; simp
  · rw [← hm]; simp
  · rw [← hj]; simp
  · have := Text_in q m s (by omega) (by omega) w
    rwa [text_nat (by omega)] at this
  · have := Text_in q j s (by omega) (by omega) w
    rwa [text_nat (by omega)] at this
  · have := Text_in (q + j) i s (by omega) (by omega) w
    rwa [text_nat (by omega)] at this

/-- The array that came in, as the call has boxed it. -/
def OneR (w0 : World) (p : Nat) (a l : Int) (w' : World) : Prop := w'.cell? ⟨p, 0, none⟩ = some (.int .i64 a) ∧ w'.cell? ⟨p, 1, none⟩ = some (.int .i64 l) ∧ p < w'.heap.size ∧ Below w0.heap.size w0 w'
theorem OneR.keep {w0 w1 w2 : World} {p : Nat} {a l : Int} (hb : Below w1.heap.size w1 w2) (h : OneR w0 p a l w1) : OneR w0 p a l w2 := one_keep hb h.1 h.2.1 h.2.2.1 h.2.2.2
theorem OneR.alloc {w0 w1 : World} {p : Nat} {a l : Int} (h : OneR w0 p a l w1) (o : Obj) : OneR w0 p a l (w1.alloc o) := h.keep ((Below.refl _ _).alloc (Nat.le_refl _) _)
theorem OneR.set {w0 w1 : World} {g : Nat} {a l : Int} (h : OneR w0 w0.heap.size a l w1) (hg : w0.heap.size < g) (v v' : Value) : OneR w0 w0.heap.size a l ((w1.setCell ⟨g, 0, none⟩ v).setCell ⟨g, 1, none⟩ v') :=
  ⟨cell_far (cell_far h.1 (by omega)) (by omega), cell_far (cell_far h.2.1 (by omega)) (by omega), by simpa [World.setCell] using h.2.2.1, Below.setCell (Below.setCell h.2.2.2 (Nat.le_of_lt hg) _) (Nat.le_of_lt hg) _⟩
theorem OneR.drew {w0 w1 : World} {p : Nat} {a l : Int} (h : OneR w0 p a l w1) : OneR w0 p a l w1.drew := ⟨h.1, h.2.1, h.2.2.1, below_drew h.2.2.2⟩
theorem OneR.set1 {w0 w1 : World} {p g i : Nat} {a l : Int} {v : Value} (h : OneR w0 p a l w1) (hne : p ≠ g) (hg : w0.heap.size ≤ g) : OneR w0 p a l (w1.setCell ⟨g, i, none⟩ v) :=
  ⟨cell_far h.1 hne, cell_far h.2.1 hne, by simpa [World.setCell] using h.2.2.1, Below.setCell h.2.2.2 hg _⟩
theorem below_undrew {B : Nat} {a w : World} (h : Below B a.drew w) : Below B a w := ⟨h.os, h.tape, h.output, h.size, h.block⟩
theorem undrew {w w1 : World} (h : Below w.drew.heap.size w.drew w1) : Below w.heap.size w w1 := ⟨h.os, h.tape, h.output, h.size, h.block⟩
/-- A span in a block that the call has made and may write. -/
def Box (p : Nat) (a l : Int) (w : World) : Prop := One p a l w ∧ w.frozen? ⟨p, 0, none⟩ = false ∧ w.frozen? ⟨p, 1, none⟩ = false
theorem Box.keep {p : Nat} {a l : Int} {w w' : World} (h : Box p a l w) (hb : Below w.heap.size w w') : Box p a l w' :=
  ⟨h.1.keep hb, (hb.frozen (p := ⟨p, 0, none⟩) h.1.2.2).trans h.2.1, (hb.frozen (p := ⟨p, 1, none⟩) h.1.2.2).trans h.2.2⟩
theorem Box.mk {w : World} {a l : Int} {t : TypeId} : Box w.heap.size a l (w.alloc (.cells #[.int .i64 a, .int .i64 l] t)) :=
  ⟨One.mk, World.frozen?_alloc_new w _ _ _, World.frozen?_alloc_new w _ _ _⟩
theorem Box.set {p : Nat} {a l a' l' : Int} {w : World} (h : Box p a l w) : Box p a' l' ((w.setCell ⟨p, 0, none⟩ (.int .i64 a')).setCell ⟨p, 1, none⟩ (.int .i64 l')) := by
  refine ⟨⟨?_, ?_, by simpa [World.setCell] using h.1.2.2⟩, by rw [World.frozen?_setCell, World.frozen?_setCell]; exact h.2.1, by rw [World.frozen?_setCell, World.frozen?_setCell]; exact h.2.2⟩
  · rw [World.cell?_setCell_other _ _ _ _ (by intro e; injection e with _ e; exact absurd e (by decide)), World.cell?_setCell_same _ _ _ h.1.1]
  · have hh : (w.setCell ⟨p, 0, none⟩ (.int .i64 a')).cell? ⟨p, 1, none⟩ = some (.int .i64 l) := by
      rw [World.cell?_setCell_other _ _ _ _ (by intro e; injection e with _ e; exact absurd e (by decide))]
      exact h.1.2.1
    exact World.cell?_setCell_same _ _ _ hh

theorem two_new (w : World) {a l a' l' : Int} {t t' : TypeId} : One w.heap.size a l ((w.alloc (.cells #[.int .i64 a, .int .i64 l] t)).alloc (.cells #[.int .i64 a', .int .i64 l'] t')) ∧ One (w.heap.size + 1) a' l' ((w.alloc (.cells #[.int .i64 a, .int .i64 l] t)).alloc (.cells #[.int .i64 a', .int .i64 l'] t')) := by
  have h1 := One.mk (w := w.alloc (.cells #[.int .i64 a, .int .i64 l] t)) (a := a') (l := l') (t := t')
  rw [World.size_alloc] at h1
  exact ⟨One.mk.alloc _, h1⟩
theorem two_box (w : World) {a l a' l' : Int} {t t' : TypeId} : Box w.heap.size a l ((w.alloc (.cells #[.int .i64 a, .int .i64 l] t)).alloc (.cells #[.int .i64 a', .int .i64 l'] t')) ∧ Box (w.heap.size + 1) a' l' ((w.alloc (.cells #[.int .i64 a, .int .i64 l] t)).alloc (.cells #[.int .i64 a', .int .i64 l'] t')) := by
  have h1 := Box.mk (w := w.alloc (.cells #[.int .i64 a, .int .i64 l] t)) (a := a') (l := l') (t := t')
  rw [World.size_alloc] at h1
  exact ⟨Box.mk.keep ((Below.refl _ _).alloc (Nat.le_refl _) _), h1⟩
theorem mixed {w : World} {g : Nat} {x y a l a' l' : Int} {t : TypeId} (h : Box g x y w) :
    One g a l (((w.setCell ⟨g, 0, none⟩ (.int .i64 a)).setCell ⟨g, 1, none⟩ (.int .i64 l)).alloc (.cells #[.int .i64 a', .int .i64 l'] t)) ∧
    One w.heap.size a' l' (((w.setCell ⟨g, 0, none⟩ (.int .i64 a)).setCell ⟨g, 1, none⟩ (.int .i64 l)).alloc (.cells #[.int .i64 a', .int .i64 l'] t)) := by
  have h1 := One.mk (w := (w.setCell ⟨g, 0, none⟩ (.int .i64 a)).setCell ⟨g, 1, none⟩ (.int .i64 l)) (a := a') (l := l') (t := t)
  rw [show ((w.setCell ⟨g, 0, none⟩ (.int .i64 a)).setCell ⟨g, 1, none⟩ (.int .i64 l)).heap.size = w.heap.size from by simp [World.setCell]] at h1
  exact ⟨h.set.1.alloc _, h1⟩
theorem Box.far {p g i : Nat} {a l : Int} {w : World} (h : Box p a l w) (v : Value) (hne : p ≠ g) : Box p a l (w.setCell ⟨g, i, none⟩ v) :=
  ⟨⟨cell_far h.1.1 hne, cell_far h.1.2.1 hne, by simpa [World.setCell] using h.1.2.2⟩, by rw [World.frozen?_setCell]; exact h.2.1, by rw [World.frozen?_setCell]; exact h.2.2⟩
theorem both {w : World} {g k : Nat} {x y x' y' a l a' l' : Int} (hg : Box g x y w) (hk : Box k x' y' w) (hne : g ≠ k) :
    One g a l ((((w.setCell ⟨g, 0, none⟩ (.int .i64 a)).setCell ⟨g, 1, none⟩ (.int .i64 l)).setCell ⟨k, 0, none⟩ (.int .i64 a')).setCell ⟨k, 1, none⟩ (.int .i64 l')) ∧
    One k a' l' ((((w.setCell ⟨g, 0, none⟩ (.int .i64 a)).setCell ⟨g, 1, none⟩ (.int .i64 l)).setCell ⟨k, 0, none⟩ (.int .i64 a')).setCell ⟨k, 1, none⟩ (.int .i64 l')) :=
  ⟨((hg.set.far _ hne).far _ hne).1, ((hk.far _ hne.symm).far _ hne.symm).set.1⟩

/-- What is held while the last test calls. -/
def TextsS (W0 : World) (ga gb p : Nat) (q j b0 b1 m : Int) (w' : World) : Prop :=
  w'.cell? ⟨ga, 0, none⟩ = some (.int .i64 q) ∧ w'.cell? ⟨ga, 1, none⟩ = some (.int .i64 j) ∧ ga < w'.heap.size ∧ w'.cell? ⟨gb, 0, none⟩ = some (.int .i64 b0) ∧ w'.cell? ⟨gb, 1, none⟩ = some (.int .i64 b1) ∧ gb < w'.heap.size ∧ w'.cell? ⟨p, 0, none⟩ = some (.int .i64 q) ∧ w'.cell? ⟨p, 1, none⟩ = some (.int .i64 m) ∧ p < w'.heap.size ∧ Below W0.heap.size W0 w'
theorem TextsS.keep {W0 w1 w2 : World} {ga gb p : Nat} {q j b0 b1 m : Int} (hb : Below w1.heap.size w1 w2) (h : TextsS W0 ga gb p q j b0 b1 m w1) : TextsS W0 ga gb p q j b0 b1 m w2 := by
  obtain ⟨a0, a1, a2, g0, g1, g2, p0, p1, p2, p3⟩ := h
  obtain ⟨a0, a1, a2⟩ := One.keep ⟨a0, a1, a2⟩ hb
  obtain ⟨g0, g1, g2⟩ := One.keep ⟨g0, g1, g2⟩ hb
  obtain ⟨p0, p1, p2⟩ := One.keep ⟨p0, p1, p2⟩ hb
  exact ⟨a0, a1, a2, g0, g1, g2, p0, p1, p2, chain p3 (Nat.le_refl _) hb⟩

set_option maxRecDepth 100000 in
set_option maxHeartbeats 20000000 in
theorem SpanTexts_walk (a0 : ByteArray) (x1a x1b : Int) (a2 : Int) (w : World) (w0 : a0.size ≤ maxLen) (w1a : (Lit.int .i64 x1a).wf = true) (w1b : (Lit.int .i64 x1b).wf = true) (w2 : (Lit.int .u64 a2).wf = true) (z0 : a0.size ≤ reachBytes) :
    Calls Try.prog 6 #[.string a0, .agg #[.int .i64 x1a, .int .i64 x1b], .int .u64 a2] w fun e w' => e = .returned (.bool true) ∧ Below w.heap.size w w' := by
  unfold reachBytes at z0
  have z1 : a0.size ≤ 140737488351232 := by omega
  have u2 := u64_of w2
  have v1 := i64_of w1a
  have v2 := i64_of w1b
  unfold I64 at v1 v2
  clear w0 w1a w1b w2 z0
  obtain ⟨X, hX, hX0, hX1⟩ : ∃ X : Int, (if (0 : Int) < x1a then x1a else 0) = X ∧ 0 ≤ X ∧ X ≤ 9223372036854775807 := ⟨_, rfl, by split <;> omega, by split <;> omega⟩
  obtain ⟨Y, hY, hY0, hY1⟩ : ∃ Y : Int, (if (0 : Int) < x1b then x1b else 0) = Y ∧ 0 ≤ Y ∧ Y ≤ 9223372036854775807 := ⟨_, rfl, by split <;> omega, by split <;> omega⟩
  obtain ⟨q, r, m, j, b0, b1, q', r', t, ta, tb, ⟨q1, r1, m1, j1, t1, cat1⟩, HC, HQ, HM, HJ, HO, HF, HT1, HT2, HX, HXa, HXb⟩ := texts_facts a0 X Y a2 z1 hX0 hY0 u2.1
  clear v1 v2
  go_enter Try.func6, Try.ntmps6
  go_upto_region 1 with fail
  obtain ⟨c0, c1⟩ := box_in (w := w) (v0 := .int .i64 x1a) (v1 := .int .i64 x1b) (t := 45)
  have bb := below_box w (.cells #[.int .i64 x1a, .int .i64 x1b] 45)
  have c2 : w.heap.size < (w.alloc (.cells #[.int .i64 x1a, .int .i64 x1b] 45)).heap.size := by simp
  generalize w.alloc (.cells #[.int .i64 x1a, .int .i64 x1b] 45) = W at *
  go_cut [7, 8] (fun s7 s8 wx => ∃ p : Nat, s7 = .pointer (some ⟨p, 0, none⟩) ∧ s8 = .int .i64 0 ∧ w.heap.size < p ∧ Box p q r wx ∧ OneR w w.heap.size x1a x1b wx)
  case first =>
    have hq := HQ.out
    have hw1 : IntKind.i64.wrap ((a0.size : Int) + 1) = (a0.size : Int) + 1 := IntWalk.i64_in _ (by omega)
    have hz1 : ((a0.size : Int) + 1 == 0) = false := by simp; omega
    have hz2 : ¬ ((a0.size : Int) + 1 = 0) := by omega
    go_region_held3 (fun w' => w'.cell? ⟨w.heap.size, 0, none⟩ = some (.int .i64 x1a) ∧ w'.cell? ⟨w.heap.size, 1, none⟩ = some (.int .i64 x1b) ∧ w.heap.size < w'.heap.size ∧ Below w.heap.size w w')
      (first | assumption | exact OneR.alloc S5.out _ | exact OneR.set S5.out c2 _ _ | exact OneR.set S5.out g4 _ _ | exact ⟨c0, c1, c2, below_drew bb⟩ | (go_split_ands; exact one_keep (by assumption) (by assumption) (by assumption) (by assumption) (by assumption)) | (go_split_ands; exact one_keep ((Below.refl _ _).alloc (Nat.le_refl _) _) (by assumption) (by assumption) (by assumption) (by assumption)) | exact ⟨(World.cell?_alloc_lt _ _ _ c2).trans c0, (World.cell?_alloc_lt _ _ _ c2).trans c1, Nat.lt_of_lt_of_le c2 (by simp), below_drew (bb.alloc bb.size _)⟩ | go_keep)
      (first | ((with_reducible refine (HO.out _).mono ?_); rintro e4 w4 ⟨rfl, b4⟩; obtain ⟨hc4, hf4⟩ := bcell_drew b4; (try (have z4 : W.heap.size < w4.heap.size := Nat.lt_of_lt_of_le (show W.heap.size < (W.alloc (.cells #[.int .i64 0, .int .i64 0] 26)).heap.size by simp) b4.size)); have g4 : w.heap.size < w4.heap.size := Nat.lt_of_lt_of_le c2 (Nat.le_trans (by first | exact Nat.le_refl _ | simp) b4.size)) | ((with_reducible refine (HF.out _).mono ?_); rintro e4 w5 ⟨rfl, b5⟩; obtain ⟨hc5, hf5⟩ := bcell b5; have S5 : Hid (OneR w w.heap.size x1a x1b w5) := Lib.hid (by refine OneR.keep b5 ?_; assumption)))
    all_goals
      go_wp2_with fail
      go_meet
      have B4 := undrew b4
      have L5 := S5.out.2.2.1
      first
        | with_reducible exact ⟨_, rfl, rfl, L5, Box.mk, S5.out.alloc _⟩
        | with_reducible exact ⟨_, rfl, rfl, g4, ((Box.mk (w := w4)).keep b5).set, S5.out.set g4 _ _⟩
        | with_reducible exact ⟨_, rfl, rfl, c2, (((Box.mk (w := W)).keep B4).keep b5).set, S5.out.set c2 _ _⟩
  case rest =>
    obtain ⟨p, rfl, rfl, hp, hB, hR⟩ := hcut
    have HW := Lib.hid wakes_any
    clear c0 c1 c2 bb HO HF
    go_wp2_with fail
    refine (HW.out _).mono ?_; rintro e w6 ⟨rfl, b6⟩
    have hB6 := hB.keep b6
    have hR6 := hR.keep b6
    clear hB hR b6
    have HB6 := Lib.hid hB6
    obtain ⟨⟨p0, p1, p2⟩, p3, p4⟩ := hB6
    obtain ⟨x0, x1, x2, x3⟩ := hR6
    go_upto_region 4 with fail
    have hm := HM.out
    have hm' : Y.tmod ((r : Int) + 1) = m := by rw [Int.tmod_eq_emod_of_nonneg hY0]; exact hm
    have hz1 : ((r : Int) + 1 == 0) = false := by simp; omega
    have hz2 : ¬ ((r : Int) + 1 = 0) := by omega
    have hw1 : IntKind.i64.wrap ((r : Int) + 1) = (r : Int) + 1 := IntWalk.i64_in _ (by omega)
    have hw2 : IntKind.u64.wrap Y = Y := by rw [IntKind.wrap_u64]; omega
    have hw3 : IntKind.u64.wrap ((r : Int) + 1) = (r : Int) + 1 := by rw [IntKind.wrap_u64]; omega
    go_cut [8] (fun s8 wx => s8 = .int .i64 0 ∧ One p q m wx ∧ Below w.heap.size w wx)
    case first =>
      first
        | go_region_with (first | ((with_reducible refine (HT1.out _).mono ?_); rintro e4 w7 ⟨rfl, b7⟩; obtain ⟨hc7, hf7⟩ := bcell_drew b7; have B7 := undrew b7))
        | fail
      all_goals
        go_wp2_with fail
        go_meet
        exact ⟨rfl, (Box.set (Box.keep HB6.out B7)).1, Below.setCell (Below.setCell (chain x3 (Nat.le_refl _) B7) (Nat.le_of_lt hp) _) (Nat.le_of_lt hp) _⟩
    case rest =>
      obtain ⟨rfl, hB, hb⟩ := hcut
      clear p0 p1 p2 p3 p4 x0 x1 x2 x3 HB6 hm hm' hz1 hz2 hw1 hw2 hw3 HT1
      obtain ⟨p0, p1, p2⟩ := hB
      have hlen : ((m : Int) != (t.size : Int)) = false := by rw [t1]; simp
      go_wp2_with fail
      go_region_held3 (fun w' => w'.cell? ⟨p, 0, none⟩ = some (.int .i64 q) ∧ w'.cell? ⟨p, 1, none⟩ = some (.int .i64 m) ∧ p < w'.heap.size ∧ Below w.heap.size w w')
        (first | assumption | exact ⟨p0, p1, p2, below_drew hb⟩ | (go_split_ands; exact one_keep (by assumption) (by assumption) (by assumption) (by assumption) (by assumption)) | go_keep)
        (first | ((with_reducible refine (HX.out _).mono ?_); rintro e4 w9 ⟨rfl, b9⟩))
      rename_i hHeld
      have S9 := Lib.hid (show OneR w p q m w9 from hHeld)
      clear p0 p1 p2 hlen hHeld
      obtain ⟨p0, p1, p2, hb9⟩ := S9.out
      go_upto_region 7 with fail
      have hm : a2.tmod ((m : Int) + 1) = j := by rw [Int.tmod_eq_emod_of_nonneg u2.1]; exact HJ.out
      have hz1 : ((m : Int) + 1 == 0) = false := by simp; omega
      have hz2 : ¬ ((m : Int) + 1 = 0) := by omega
      have hw1 : IntKind.i64.wrap ((m : Int) + 1) = (m : Int) + 1 := IntWalk.i64_in _ (by omega)
      have hw3 : IntKind.u64.wrap ((m : Int) + 1) = (m : Int) + 1 := by rw [IntKind.wrap_u64]; omega
      go_cut [9, 10, 11] (fun s9 s10 s11 wx => ∃ ga gb : Nat, s9 = .pointer (some ⟨ga, 0, none⟩) ∧ s10 = .pointer (some ⟨gb, 0, none⟩) ∧ s11 = .int .i64 0 ∧ One ga q j wx ∧ One gb b0 b1 wx ∧ OneR w p q m wx)
      case first =>
        go_region_held3 (fun w' => w'.cell? ⟨p, 0, none⟩ = some (.int .i64 q) ∧ w'.cell? ⟨p, 1, none⟩ = some (.int .i64 m) ∧ p < w'.heap.size ∧ Below w.heap.size w w')
          (first | assumption | exact ⟨p0, p1, p2, below_drew hb9⟩ | (go_split_ands; exact one_keep (by assumption) (by assumption) (by assumption) (by assumption) (by assumption)) | (show OneR w p q m _; (try (with_reducible refine OneR.drew ?_)); (repeat (first | (with_reducible refine OneR.alloc ?_ _) | (with_reducible refine OneR.set1 ?_ (by omega) (by omega)))); (first | exact S10.out | exact S9.out)) | go_keep)
          (first | ((with_reducible refine (HT2.out _).mono ?_); rintro e4 w10 ⟨rfl, b10⟩; obtain ⟨hc10, hf10⟩ := bcell_drew b10; have B10 := undrew b10; have S10 : Hid (OneR w p q m w10) := Lib.hid (by refine OneR.keep b10 ?_; assumption); have p10 := S10.out.2.2.1; have q10 := (below_undrew b10).size; (try (have z10 : w9.heap.size < w10.heap.size := (by simp at q10; omega))); (try (have z11 : w9.heap.size + 1 < w10.heap.size := (by simp at q10; omega))); clear q10))
        all_goals
          go_wp2_with fail
          go_meet
          first
            | with_reducible exact ⟨_, _, rfl, rfl, rfl, (two_new w10).1, (two_new w10).2, (S10.out.alloc _).alloc _⟩
            | with_reducible exact ⟨_, _, rfl, rfl, rfl, (two_new w10).2, (two_new w10).1, (S10.out.alloc _).alloc _⟩
            | with_reducible exact ⟨_, _, rfl, rfl, rfl, (mixed ((Box.mk (w := w9)).keep B10)).1, (mixed ((Box.mk (w := w9)).keep B10)).2, (OneR.set1 (OneR.set1 S10.out (by omega) (by omega)) (by omega) (by omega)).alloc _⟩
            | with_reducible exact ⟨_, _, rfl, rfl, rfl, (mixed ((Box.mk (w := w9)).keep B10)).2, (mixed ((Box.mk (w := w9)).keep B10)).1, (OneR.set1 (OneR.set1 S10.out (by omega) (by omega)) (by omega) (by omega)).alloc _⟩
            | with_reducible exact ⟨_, _, rfl, rfl, rfl, (both ((two_box w9).1.keep B10) ((two_box w9).2.keep B10) (by omega)).1, (both ((two_box w9).1.keep B10) ((two_box w9).2.keep B10) (by omega)).2, OneR.set1 (OneR.set1 (OneR.set1 (OneR.set1 S10.out (by omega) (by omega)) (by omega) (by omega)) (by omega) (by omega)) (by omega) (by omega)⟩
            | with_reducible exact ⟨_, _, rfl, rfl, rfl, (both ((two_box w9).2.keep B10) ((two_box w9).1.keep B10) (by omega)).1, (both ((two_box w9).2.keep B10) ((two_box w9).1.keep B10) (by omega)).2, OneR.set1 (OneR.set1 (OneR.set1 (OneR.set1 S10.out (by omega) (by omega)) (by omega) (by omega)) (by omega) (by omega)) (by omega) (by omega)⟩
      case rest =>
        obtain ⟨ga, gb, rfl, rfl, rfl, hA, hB, hR⟩ := hcut
        clear p0 p1 p2 hb9 S9 hm hz1 hz2 hw1 hw3 HT2
        obtain ⟨a0', a1', a2'⟩ := hA
        obtain ⟨g0, g1, g2⟩ := hB
        obtain ⟨p0, p1, p2, p3⟩ := hR
        have hcat : ¬ 9223372036854775807 < ta.size + tb.size := by omega
        go_wp2_with fail
        go_region_held3 (fun w' => w'.cell? ⟨ga, 0, none⟩ = some (.int .i64 q) ∧ w'.cell? ⟨ga, 1, none⟩ = some (.int .i64 j) ∧ ga < w'.heap.size ∧ w'.cell? ⟨gb, 0, none⟩ = some (.int .i64 b0) ∧ w'.cell? ⟨gb, 1, none⟩ = some (.int .i64 b1) ∧ gb < w'.heap.size ∧ w'.cell? ⟨p, 0, none⟩ = some (.int .i64 q) ∧ w'.cell? ⟨p, 1, none⟩ = some (.int .i64 m) ∧ p < w'.heap.size ∧ Below w.heap.size w w')
          (first | assumption | exact ⟨a0', a1', a2', g0, g1, g2, p0, p1, p2, below_drew p3⟩ | (refine TextsS.keep (by assumption) ?_; assumption) | go_keep)
          (first | ((with_reducible refine (HXa.out _).mono ?_); rintro e4 w11 ⟨rfl, b11⟩) | ((with_reducible refine (HXb.out _).mono ?_); rintro e4 w11 ⟨rfl, b11⟩) | ((with_reducible refine (HX.out _).mono ?_); rintro e4 w11 ⟨rfl, b11⟩))
        rename_i hHeld
        have hZ := hHeld.2.2.2.2.2.2.2.2.2
        clear hHeld a0' a1' a2' g0 g1 g2 p0 p1 p2 p3
        go_wp2_with fail
        go_ret
        exact ⟨retB (by rw [HC.out]; exact beq_self_eq_true _), hZ⟩

end Go.Proofs.Ytokfhaflfaldnaa
