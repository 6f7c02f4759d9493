/- Layer 5's law SpanWithin. -/
import Derived.Test.YtokfhaflfaldnaaSpanGoodW
import Derived.Deep.DeepCutAuto
namespace Go.Proofs.Ytokfhaflfaldnaa
open Go.ChangeShapes Go.WideShapes Go.ChangeAt Go.RowKit
set_option linter.unusedVariables false
attribute [local go_sem ↓] Go.wp_at_zero Go.wp_at_succ

theorem u64_of {x : Int} (h : (Lit.int .u64 x).wf = true) : 0 ≤ x ∧ x ≤ 18446744073709551615 := by
  simpa [Lit.wf, IntKind.min, IntKind.max, IntKind.bits, IntKind.signed] using h

/-- Two new blocks, whichever comes first. -/
theorem two_ways {w0 W : World} {a l a' l' : Int} {g : Nat} {z : Nat → Int} {t t' : TypeId} (h8 : Eight g z W) (hb : Below w0.heap.size w0 W) :
    One W.heap.size a l ((W.alloc (.cells #[.int .i64 a, .int .i64 l] t)).alloc (.cells #[.int .i64 a', .int .i64 l'] t')).drew ∧
    One (W.heap.size + 1) a' l' ((W.alloc (.cells #[.int .i64 a, .int .i64 l] t)).alloc (.cells #[.int .i64 a', .int .i64 l'] t')).drew ∧
    Eight g z ((W.alloc (.cells #[.int .i64 a, .int .i64 l] t)).alloc (.cells #[.int .i64 a', .int .i64 l'] t')).drew ∧
    Below w0.heap.size w0 ((W.alloc (.cells #[.int .i64 a, .int .i64 l] t)).alloc (.cells #[.int .i64 a', .int .i64 l'] t')).drew := by
  have h1 := One.mk (w := W.alloc (.cells #[.int .i64 a, .int .i64 l] t)) (a := a') (l := l') (t := t')
  rw [World.size_alloc] at h1
  exact ⟨One.mk.alloc _, h1, (h8.alloc _).alloc _, below_drew (chain hb (Nat.le_refl _) (below_two W _ _))⟩

/-- All that the calls of a round return, of a span of which n bytes are taken. -/
theorem within_facts (y0 y1 y2 y3 n : Int) (i0 : I64 y0) (i1 : I64 y1) (i2 : I64 y2) (i3 : I64 y3) (hn : 0 ≤ n) (h : Gd y0 y1 4611686018427387904) (hle : n ≤ y1) :
    ∃ (q r m : Int) (ba bb bs : Bool), ((ba = true → bs = true) ∧ (bb = true → bs = true)) ∧
      Hid (∀ w, Calls Try.prog 16 #[.agg #[.int .i64 y0, .int .i64 y1], .int .u64 n] w fun e w' => e = takeV y0 n q r 0 ∧ Below w.heap.size w w') ∧
      Hid (∀ w, Calls Try.prog 20 #[.agg #[.int .i64 y0, .int .i64 n], .agg #[.int .i64 q, .int .i64 r]] w fun e w' => e = pairV y0 y1 0 ∧ Below w.heap.size w w') ∧
      Hid (∀ w, Calls Try.prog 22 #[.agg #[.int .i64 y0, .int .i64 y1], .agg #[.int .i64 y0, .int .i64 n]] w fun e w' => e = .returned (.bool true) ∧ Below w.heap.size w w') ∧
      Hid (∀ w, Calls Try.prog 22 #[.agg #[.int .i64 y0, .int .i64 y1], .agg #[.int .i64 q, .int .i64 r]] w fun e w' => e = .returned (.bool true) ∧ Below w.heap.size w w') ∧
      Hid (∀ w, Calls Try.prog 10 #[.agg #[.int .i64 y0, .int .i64 y1]] w fun e w' => e = .returned (.int .i64 m) ∧ Below w.heap.size w w') ∧
      Hid (∀ w, Calls Try.prog 8 #[.agg #[.int .i64 y0, .int .i64 n], .int .i64 m] w fun e w' => e = .returned (.bool true) ∧ Below w.heap.size w w') ∧
      Hid (∀ w, Calls Try.prog 8 #[.agg #[.int .i64 q, .int .i64 r], .int .i64 m] w fun e w' => e = .returned (.bool true) ∧ Below w.heap.size w w') ∧
      Hid (∀ w, Calls Try.prog 22 #[.agg #[.int .i64 y0, .int .i64 n], .agg #[.int .i64 y2, .int .i64 y3]] w fun e w' => e = .returned (.bool ba) ∧ Below w.heap.size w w') ∧
      Hid (∀ w, Calls Try.prog 22 #[.agg #[.int .i64 q, .int .i64 r], .agg #[.int .i64 y2, .int .i64 y3]] w fun e w' => e = .returned (.bool bb) ∧ Below w.heap.size w w') ∧
      Hid (∀ w, Calls Try.prog 22 #[.agg #[.int .i64 y0, .int .i64 y1], .agg #[.int .i64 y2, .int .i64 y3]] w fun e w' => e = .returned (.bool bs) ∧ Below w.heap.size w w') ∧
      Hid (∀ w, Calls Try.prog 18 #[.agg #[.int .i64 y0, .int .i64 y1], .int .i64 q] w fun e w' => e = pairV q r 0 ∧ Below w.heap.size w w') := by
  have hg := h
  unfold Gd at hg
  obtain ⟨h1, h2, h3⟩ := hg
  unfold I64 at i0 i1 i2 i3
  have ga : Gd y0 n 4611686018427387904 := by unfold Gd; omega
  have gb : Gd (y0 + n) (y1 - n) 4611686018427387904 := by unfold Gd; omega
  have jn : I64 n := by unfold I64; omega
  have jq : I64 (y0 + n) := by unfold I64; omega
  have jr : I64 (y1 - n) := by unfold I64; omega
  have a1 : hasB y0 y1 y0 n = true := by rw [hasV_yes h ga]; simp; omega
  have a2 : hasB y0 y1 (y0 + n) (y1 - n) = true := by rw [hasV_yes h gb]; simp; omega
  have c1 := Between_ok y0 n (y0 + n) (y1 - n) i0 jn jq jr ga gb (by omega)
  rw [show y0 + n + (y1 - n) - y0 = y1 from by omega] at c1
  have c2 := Has_any y0 y1 y0 n i0 i1 i0 jn
  rw [a1] at c2
  have c3 := Has_any y0 y1 (y0 + n) (y1 - n) i0 i1 jq jr
  rw [a2] at c3
  have c4 := End_any y0 y1 i0 i1
  rw [end_yes h] at c4
  have c5 := From_ok y0 y1 (y0 + n) i0 i1 h (by omega) (by omega)
  rw [show y0 + y1 - (y0 + n) = y1 - n from by omega] at c5
  refine ⟨y0 + n, y1 - n, y0 + y1, hasB y0 n y2 y3, hasB (y0 + n) (y1 - n) y2 y3, hasB y0 y1 y2 y3, ⟨?_, ?_⟩, Lib.hid (Take_ok y0 y1 n i0 i1 hn h hle), Lib.hid c1, Lib.hid c2, Lib.hid c3, Lib.hid c4,
    Lib.hid (Good_yes y0 n (y0 + y1) (by omega) (by unfold Gd; omega)), Lib.hid (Good_yes (y0 + n) (y1 - n) (y0 + y1) (by omega) (by unfold Gd; omega)),
    Lib.hid (Has_any y0 n y2 y3 i0 jn i2 i3), Lib.hid (Has_any (y0 + n) (y1 - n) y2 y3 jq jr i2 i3), Lib.hid (Has_any y0 y1 y2 y3 i0 i1 i2 i3), Lib.hid c5⟩
  · intro hh
    by_cases g : Gd y2 y3 4611686018427387904
    · rw [hasV_yes ga g] at hh
      rw [hasV_yes h g]
      simp at hh ⊢
      omega
    · rw [hasV_no2 g] at hh
      exact absurd hh (by decide)
  · intro hh
    by_cases g : Gd y2 y3 4611686018427387904
    · rw [hasV_yes gb g] at hh
      rw [hasV_yes h g]
      simp at hh ⊢
      omega
    · rw [hasV_no2 g] at hh
      exact absurd hh (by decide)

/-- What is held while a round's long test calls: the span, its two parts, and both together. -/
theorem withinS_keep {w0 w1 w2 : World} {s o p x g : Nat} {z : Nat → Int} {y0 y1 y2 y3 n q r : Int} (hb : Below w1.heap.size w1 w2)
    (h0 : w1.cell? ⟨s, 0, none⟩ = some (.int .i64 y0)) (h1 : w1.cell? ⟨s, 1, none⟩ = some (.int .i64 y1)) (h2 : s < w1.heap.size)
    (h3 : w1.cell? ⟨p, 0, none⟩ = some (.int .i64 y0)) (h4 : w1.cell? ⟨p, 1, none⟩ = some (.int .i64 n)) (h5 : p < w1.heap.size)
    (h6 : w1.cell? ⟨p + 1, 0, none⟩ = some (.int .i64 q)) (h7 : w1.cell? ⟨p + 1, 1, none⟩ = some (.int .i64 r)) (h8 : p + 1 < w1.heap.size)
    (h9 : w1.cell? ⟨x, 0, none⟩ = some (.int .i64 y0)) (h10 : w1.cell? ⟨x, 1, none⟩ = some (.int .i64 y1)) (h11 : x < w1.heap.size)
    (k1 : One o y2 y3 w1) (k2 : Eight g z w1) (k3 : Below w0.heap.size w0 w1) :
    w2.cell? ⟨s, 0, none⟩ = some (.int .i64 y0) ∧ w2.cell? ⟨s, 1, none⟩ = some (.int .i64 y1) ∧ s < w2.heap.size ∧ w2.cell? ⟨p, 0, none⟩ = some (.int .i64 y0) ∧ w2.cell? ⟨p, 1, none⟩ = some (.int .i64 n) ∧ p < w2.heap.size ∧ w2.cell? ⟨p + 1, 0, none⟩ = some (.int .i64 q) ∧ w2.cell? ⟨p + 1, 1, none⟩ = some (.int .i64 r) ∧ p + 1 < w2.heap.size ∧
      w2.cell? ⟨x, 0, none⟩ = some (.int .i64 y0) ∧ w2.cell? ⟨x, 1, none⟩ = some (.int .i64 y1) ∧ x < w2.heap.size ∧ One o y2 y3 w2 ∧ Eight g z w2 ∧ Below w0.heap.size w0 w2 := by
  obtain ⟨e0, e1, e2⟩ := One.keep ⟨h0, h1, h2⟩ hb
  obtain ⟨e3, e4, e5⟩ := One.keep ⟨h3, h4, h5⟩ hb
  obtain ⟨e6, e7, e8⟩ := One.keep ⟨h6, h7, h8⟩ hb
  obtain ⟨e9, e10, e11⟩ := One.keep ⟨h9, h10, h11⟩ hb
  exact ⟨e0, e1, e2, e3, e4, e5, e6, e7, e8, e9, e10, e11, k1.keep hb, k2.keep hb, chain k3 (Nat.le_refl _) hb⟩

set_option maxRecDepth 100000 in
set_option maxHeartbeats 2000000 in
theorem SpanWithin_walk (x0a x0b x0c x0d : Int) (a1 : Int) (w : World) (w0a : (Lit.int .i64 x0a).wf = true) (w0b : (Lit.int .i64 x0b).wf = true) (w0c : (Lit.int .i64 x0c).wf = true) (w0d : (Lit.int .i64 x0d).wf = true) (w1 : (Lit.int .u64 a1).wf = true) :
    Calls Try.prog 5 #[.agg #[.int .i64 x0a, .int .i64 x0b, .int .i64 x0c, .int .i64 x0d], .int .u64 a1] w fun e w' => e = .returned (.bool true) ∧ Below w.heap.size w w' := by
  have HS := Lib.hid (fun w => some_any x0a x0b x0c x0d (i64_of w0a) (i64_of w0b) (i64_of w0c) (i64_of w0d) w)
  obtain ⟨n, hn, hn0, hn1⟩ : ∃ n : Int, bits .and .u64 a1 31 = n ∧ 0 ≤ n ∧ n ≤ 18446744073709551615 := ⟨_, rfl, bits_lo_u64 _ _ _, bits_hi_u64 _ _ _⟩
  have HN := Lib.hid hn
  clear w0a w0b w0c w0d w1 hn
  go_enter Try.func5, Try.ntmps5
  go_wp2_with fail
  refine (HS.out _).mono ?_; rintro e wa ⟨g, z, rfl, hg, h8, ba⟩
  have bb := chain (below_box w _) (Nat.le_refl _) ba
  have hwg : w.heap.size < g := by simp at hg; omega
  clear hg
  go_wp2_with fail
  go_loopw [19] (fun i wr => ∃ k : Nat, k ≤ 2 ∧ i = .int .i64 k ∧ Eight g z wr ∧ Below w.heap.size w wr) (fun i _ => 2 - (intOf i).toNat)
  case atStart => exact ⟨0, by omega, rfl, h8, bb⟩
  case round =>
    clear h8 bb ba
    obtain ⟨k, hk, rfl, h8, hb⟩ := hrel
    by_cases hlt : k < 2
    · obtain ⟨y0, y1, y2, y3, ⟨i0, i1, i2, i3⟩, c0, c1, c2, c3⟩ := h8.row hlt
      have f4 := (Four.mk (w := wr) (y0 := y0) (y1 := y1) (y2 := y2) (y3 := y3) (t := 22))
      have f8 := (h8.alloc (.cells #[.int .i64 y0, .int .i64 y1, .int .i64 y2, .int .i64 y3] 22))
      have fb := chain hb (Nat.le_refl _) (below_box wr (.cells #[.int .i64 y0, .int .i64 y1, .int .i64 y2, .int .i64 y3] 22))
      go_upto_region 4 with fail
      generalize wr.alloc (.cells #[.int .i64 y0, .int .i64 y1, .int .i64 y2, .int .i64 y3] 22) = W at *
      generalize wr.heap.size = p at *
      obtain ⟨d0, d1, d2, d3, d4⟩ := f4
      clear c0 c1 c2 c3 h8 hb
      have n0 := World.new_ne W _ d0
      have n1 := World.new_ne W _ d1
      have n2 := World.new_ne W _ d2
      have n3 := World.new_ne W _ d3
      go_cut [7, 8] (fun s7 s8 wx => ∃ s o : Nat, s7 = .pointer (some ⟨s, 0, none⟩) ∧ s8 = .pointer (some ⟨o, 0, none⟩) ∧ One s y0 y1 wx ∧ One o y2 y3 wx ∧ Eight g z wx ∧ Below w.heap.size w wx)
      case first =>
        go_region_held3 (fun w' => w'.cell? ⟨p, 0, none⟩ = some (.int .i64 y0) ∧ w'.cell? ⟨p, 1, none⟩ = some (.int .i64 y1) ∧ w'.cell? ⟨p, 2, none⟩ = some (.int .i64 y2) ∧ w'.cell? ⟨p, 3, none⟩ = some (.int .i64 y3))
          (go_keep)
          (fail)
        all_goals
          go_wp2_with fail
          go_meet
        · obtain ⟨q1, q2, q3, q4⟩ := two_ways (a := y0) (l := y1) (a' := y2) (l' := y3) (t := 26) (t' := 26) f8 fb
          exact ⟨_, _, rfl, rfl, q1, q2, q3, q4⟩
        · obtain ⟨q1, q2, q3, q4⟩ := two_ways (a := y2) (l := y3) (a' := y0) (l' := y1) (t := 26) (t' := 26) f8 fb
          exact ⟨_, _, rfl, rfl, q2, q1, q3, q4⟩
      case rest =>
        obtain ⟨s, o, rfl, rfl, q1, q2, q3, q4⟩ := hcut
        clear d0 d1 d2 d3 d4 n0 n1 n2 n3 f8 fb
        obtain ⟨s0, s1, s2⟩ := q1
        obtain ⟨o0, o1, o2⟩ := q2
        by_cases hT : Gd y0 y1 4611686018427387904 ∧ n ≤ y1
        · obtain ⟨q, r, m, ba, bb, bs, ⟨hba, hbb⟩, HT, HB, HA1, HA2, HE, HGa, HGb, HO1, HO2, HO3, HF⟩ := within_facts y0 y1 y2 y3 n i0 i1 i2 i3 hn0 hT.1 hT.2
          have Hba := Lib.hid hba
          have Hbb := Lib.hid hbb
          clear hT hba hbb
          go_wp2_with (simp only [HN.out])
          refine (HT.out _).mono ?_; rintro e w5 ⟨rfl, b5⟩
          -- the two parts lie in blocks of their own
          have eb5 := chain q4 (Nat.le_refl _) b5
          have q5 := q3.keep b5
          have s5 := One.keep ⟨s0, s1, s2⟩ b5
          have o5 := One.keep ⟨o0, o1, o2⟩ b5
          clear s0 s1 s2 o0 o1 o2 q3 q4 b5
          have pa := Two.mk (w := w5) (a := y0) (l := n) (a' := q) (l' := r) (t := 26) (t' := 26)
          have s6 := (s5.alloc (.cells #[.int .i64 y0, .int .i64 n] 26)).alloc (.cells #[.int .i64 q, .int .i64 r] 26)
          have o6 := (o5.alloc (.cells #[.int .i64 y0, .int .i64 n] 26)).alloc (.cells #[.int .i64 q, .int .i64 r] 26)
          have q6 := (q5.alloc (.cells #[.int .i64 y0, .int .i64 n] 26)).alloc (.cells #[.int .i64 q, .int .i64 r] 26)
          have eb6 := chain eb5 (Nat.le_refl _) (below_two w5 (.cells #[.int .i64 y0, .int .i64 n] 26) (.cells #[.int .i64 q, .int .i64 r] 26))
          clear s5 o5 q5 eb5
          obtain ⟨a0, a1', a2, a3, a4⟩ := pa
          have a5 : w5.heap.size < ((w5.alloc (.cells #[.int .i64 y0, .int .i64 n] 26)).alloc (.cells #[.int .i64 q, .int .i64 r] 26)).heap.size := by omega
          go_wp2_with fail
          generalize (w5.alloc (.cells #[.int .i64 y0, .int .i64 n] 26)).alloc (.cells #[.int .i64 q, .int .i64 r] 26) = W6 at *
          generalize w5.heap.size = p6 at *
          refine (HB.out _).mono ?_; rintro e w7 ⟨rfl, b7⟩
          obtain ⟨d0, d1, d2, d3, d4⟩ := (Two.keep ⟨a0, a1', a2, a3, a4⟩ b7).alloc (.cells #[.int .i64 y0, .int .i64 y1] 26)
          obtain ⟨s0, s1, s2⟩ := (s6.keep b7).alloc (.cells #[.int .i64 y0, .int .i64 y1] 26)
          obtain ⟨x0, x1, x2⟩ := One.mk (w := w7) (a := y0) (l := y1) (t := 26)
          have o8 := (o6.keep b7).alloc (.cells #[.int .i64 y0, .int .i64 y1] 26)
          have q8 := (q6.keep b7).alloc (.cells #[.int .i64 y0, .int .i64 y1] 26)
          have eb8 := chain (chain eb6 (Nat.le_refl _) b7) (Nat.le_refl _) (below_box w7 (.cells #[.int .i64 y0, .int .i64 y1] 26))
          clear a0 a1' a2 a3 a4 a5 s6 o6 q6 eb6 b7
          go_wp2_with fail
          generalize w7.alloc (.cells #[.int .i64 y0, .int .i64 y1] 26) = W8 at *
          generalize w7.heap.size = x at *
          have d5 : p6 < W8.heap.size := by omega
          go_region_held3 (fun w' => w'.cell? ⟨s, 0, none⟩ = some (.int .i64 y0) ∧ w'.cell? ⟨s, 1, none⟩ = some (.int .i64 y1) ∧ s < w'.heap.size ∧ w'.cell? ⟨p6, 0, none⟩ = some (.int .i64 y0) ∧ w'.cell? ⟨p6, 1, none⟩ = some (.int .i64 n) ∧ p6 < w'.heap.size ∧ w'.cell? ⟨p6 + 1, 0, none⟩ = some (.int .i64 q) ∧ w'.cell? ⟨p6 + 1, 1, none⟩ = some (.int .i64 r) ∧ p6 + 1 < w'.heap.size ∧ w'.cell? ⟨x, 0, none⟩ = some (.int .i64 y0) ∧ w'.cell? ⟨x, 1, none⟩ = some (.int .i64 y1) ∧ x < w'.heap.size ∧ One o y2 y3 w' ∧ Eight g z w' ∧ Below w.heap.size w w')
            (first | exact ⟨s0, s1, s2, d0, d1, d5, d2, d3, d4, x0, x1, x2, o8, q8, below_drew eb8⟩ | (rename_i hH; exact withinS_keep (by assumption) hH.1 hH.2.1 hH.2.2.1 hH.2.2.2.1 hH.2.2.2.2.1 hH.2.2.2.2.2.1 hH.2.2.2.2.2.2.1 hH.2.2.2.2.2.2.2.1 hH.2.2.2.2.2.2.2.2.1 hH.2.2.2.2.2.2.2.2.2.1 hH.2.2.2.2.2.2.2.2.2.2.1 hH.2.2.2.2.2.2.2.2.2.2.2.1 hH.2.2.2.2.2.2.2.2.2.2.2.2.1 hH.2.2.2.2.2.2.2.2.2.2.2.2.2.1 hH.2.2.2.2.2.2.2.2.2.2.2.2.2.2) | (go_split_ands; exact withinS_keep (by assumption) (by assumption) (by assumption) (by assumption) (by assumption) (by assumption) (by assumption) (by assumption) (by assumption) (by assumption) (by assumption) (by assumption) (by assumption) (by assumption) (by assumption) (by assumption)) | go_keep)
            (first | ((with_reducible refine (HA1.out _).mono ?_); rintro e4 w4 ⟨rfl, b4⟩) | ((with_reducible refine (HA2.out _).mono ?_); rintro e4 w4 ⟨rfl, b4⟩) | ((with_reducible refine (HE.out _).mono ?_); rintro e4 w4 ⟨rfl, b4⟩) | ((with_reducible refine (HGa.out _).mono ?_); rintro e4 w4 ⟨rfl, b4⟩) | ((with_reducible refine (HGb.out _).mono ?_); rintro e4 w4 ⟨rfl, b4⟩))
          rename_i hH
          obtain ⟨s0_w4, s1_w4, s2_w4, a0_w4, a1_w4, a2_w4, r0_w4, r1_w4, r2_w4, x0_w4, x1_w4, x2_w4, o_w4, q_w4, eb_w4⟩ := hH
          obtain ⟨o0_w4, o1_w4, o2_w4⟩ := o_w4
          clear s0 s1 s2 d0 d1 d2 d3 d4 d5 x0 x1 x2 o8 q8 eb8 x0_w4 x1_w4 x2_w4
          cases ba
          · cases bb
            · clear Hba Hbb HO3
              go_wp2_with fail
              refine (HO1.out _).mono ?_; rintro e w10 ⟨rfl, b_w10⟩
              obtain ⟨s0_w10, s1_w10, s2_w10⟩ := One.keep ⟨s0_w4, s1_w4, s2_w4⟩ b_w10
              obtain ⟨a0_w10, a1_w10, a2_w10⟩ := One.keep ⟨a0_w4, a1_w4, a2_w4⟩ b_w10
              obtain ⟨r0_w10, r1_w10, r2_w10⟩ := One.keep ⟨r0_w4, r1_w4, r2_w4⟩ b_w10
              obtain ⟨o0_w10, o1_w10, o2_w10⟩ := One.keep ⟨o0_w4, o1_w4, o2_w4⟩ b_w10
              have q_w10 := q_w4.keep b_w10
              have eb_w10 := chain eb_w4 (Nat.le_refl _) b_w10
              clear s0_w4 s1_w4 s2_w4 a0_w4 a1_w4 a2_w4 r0_w4 r1_w4 r2_w4 o0_w4 o1_w4 o2_w4 q_w4 eb_w4 b_w10
              go_wp2_with fail
              refine (HO2.out _).mono ?_; rintro e w11 ⟨rfl, b_w11⟩
              obtain ⟨s0_w11, s1_w11, s2_w11⟩ := One.keep ⟨s0_w10, s1_w10, s2_w10⟩ b_w11
              obtain ⟨a0_w11, a1_w11, a2_w11⟩ := One.keep ⟨a0_w10, a1_w10, a2_w10⟩ b_w11
              obtain ⟨r0_w11, r1_w11, r2_w11⟩ := One.keep ⟨r0_w10, r1_w10, r2_w10⟩ b_w11
              obtain ⟨o0_w11, o1_w11, o2_w11⟩ := One.keep ⟨o0_w10, o1_w10, o2_w10⟩ b_w11
              have q_w11 := q_w10.keep b_w11
              have eb_w11 := chain eb_w10 (Nat.le_refl _) b_w11
              clear s0_w10 s1_w10 s2_w10 a0_w10 a1_w10 a2_w10 r0_w10 r1_w10 r2_w10 o0_w10 o1_w10 o2_w10 q_w10 eb_w10 b_w11
              go_wp2_with fail
              refine (HF.out _).mono ?_; rintro e wF ⟨rfl, b_wF⟩
              obtain ⟨s0_wF, s1_wF, s2_wF⟩ := One.keep ⟨s0_w11, s1_w11, s2_w11⟩ b_wF
              obtain ⟨a0_wF, a1_wF, a2_wF⟩ := One.keep ⟨a0_w11, a1_w11, a2_w11⟩ b_wF
              obtain ⟨r0_wF, r1_wF, r2_wF⟩ := One.keep ⟨r0_w11, r1_w11, r2_w11⟩ b_wF
              obtain ⟨o0_wF, o1_wF, o2_wF⟩ := One.keep ⟨o0_w11, o1_w11, o2_w11⟩ b_wF
              have q_wF := q_w11.keep b_wF
              have eb_wF := chain eb_w11 (Nat.le_refl _) b_wF
              clear s0_w11 s1_w11 s2_w11 a0_w11 a1_w11 a2_w11 r0_w11 r1_w11 r2_w11 o0_w11 o1_w11 o2_w11 q_w11 eb_w11 b_wF
              go_wp2_with fail
              go_roundw
              case rel => exact ⟨k + 1, by omega, by go_num, q_wF.alloc _, eb_wF.alloc eb_wF.size _⟩
              case measure => simp [intOf]; omega
            · obtain rfl : bs = true := Hbb.out rfl
              clear Hba Hbb
              go_wp2_with fail
              refine (HO1.out _).mono ?_; rintro e w10 ⟨rfl, b_w10⟩
              obtain ⟨s0_w10, s1_w10, s2_w10⟩ := One.keep ⟨s0_w4, s1_w4, s2_w4⟩ b_w10
              obtain ⟨a0_w10, a1_w10, a2_w10⟩ := One.keep ⟨a0_w4, a1_w4, a2_w4⟩ b_w10
              obtain ⟨r0_w10, r1_w10, r2_w10⟩ := One.keep ⟨r0_w4, r1_w4, r2_w4⟩ b_w10
              obtain ⟨o0_w10, o1_w10, o2_w10⟩ := One.keep ⟨o0_w4, o1_w4, o2_w4⟩ b_w10
              have q_w10 := q_w4.keep b_w10
              have eb_w10 := chain eb_w4 (Nat.le_refl _) b_w10
              clear s0_w4 s1_w4 s2_w4 a0_w4 a1_w4 a2_w4 r0_w4 r1_w4 r2_w4 o0_w4 o1_w4 o2_w4 q_w4 eb_w4 b_w10
              go_wp2_with fail
              refine (HO2.out _).mono ?_; rintro e w11 ⟨rfl, b_w11⟩
              obtain ⟨s0_w11, s1_w11, s2_w11⟩ := One.keep ⟨s0_w10, s1_w10, s2_w10⟩ b_w11
              obtain ⟨a0_w11, a1_w11, a2_w11⟩ := One.keep ⟨a0_w10, a1_w10, a2_w10⟩ b_w11
              obtain ⟨r0_w11, r1_w11, r2_w11⟩ := One.keep ⟨r0_w10, r1_w10, r2_w10⟩ b_w11
              obtain ⟨o0_w11, o1_w11, o2_w11⟩ := One.keep ⟨o0_w10, o1_w10, o2_w10⟩ b_w11
              have q_w11 := q_w10.keep b_w11
              have eb_w11 := chain eb_w10 (Nat.le_refl _) b_w11
              clear s0_w10 s1_w10 s2_w10 a0_w10 a1_w10 a2_w10 r0_w10 r1_w10 r2_w10 o0_w10 o1_w10 o2_w10 q_w10 eb_w10 b_w11
              go_wp2_with fail
              refine (HO3.out _).mono ?_; rintro e w12 ⟨rfl, b_w12⟩
              obtain ⟨s0_w12, s1_w12, s2_w12⟩ := One.keep ⟨s0_w11, s1_w11, s2_w11⟩ b_w12
              obtain ⟨a0_w12, a1_w12, a2_w12⟩ := One.keep ⟨a0_w11, a1_w11, a2_w11⟩ b_w12
              obtain ⟨r0_w12, r1_w12, r2_w12⟩ := One.keep ⟨r0_w11, r1_w11, r2_w11⟩ b_w12
              obtain ⟨o0_w12, o1_w12, o2_w12⟩ := One.keep ⟨o0_w11, o1_w11, o2_w11⟩ b_w12
              have q_w12 := q_w11.keep b_w12
              have eb_w12 := chain eb_w11 (Nat.le_refl _) b_w12
              clear s0_w11 s1_w11 s2_w11 a0_w11 a1_w11 a2_w11 r0_w11 r1_w11 r2_w11 o0_w11 o1_w11 o2_w11 q_w11 eb_w11 b_w12
              go_wp2_with fail
              refine (HF.out _).mono ?_; rintro e wF ⟨rfl, b_wF⟩
              obtain ⟨s0_wF, s1_wF, s2_wF⟩ := One.keep ⟨s0_w12, s1_w12, s2_w12⟩ b_wF
              obtain ⟨a0_wF, a1_wF, a2_wF⟩ := One.keep ⟨a0_w12, a1_w12, a2_w12⟩ b_wF
              obtain ⟨r0_wF, r1_wF, r2_wF⟩ := One.keep ⟨r0_w12, r1_w12, r2_w12⟩ b_wF
              obtain ⟨o0_wF, o1_wF, o2_wF⟩ := One.keep ⟨o0_w12, o1_w12, o2_w12⟩ b_wF
              have q_wF := q_w12.keep b_wF
              have eb_wF := chain eb_w12 (Nat.le_refl _) b_wF
              clear s0_w12 s1_w12 s2_w12 a0_w12 a1_w12 a2_w12 r0_w12 r1_w12 r2_w12 o0_w12 o1_w12 o2_w12 q_w12 eb_w12 b_wF
              go_wp2_with fail
              go_roundw
              case rel => exact ⟨k + 1, by omega, by go_num, q_wF.alloc _, eb_wF.alloc eb_wF.size _⟩
              case measure => simp [intOf]; omega
          · obtain rfl : bs = true := Hba.out rfl
            clear Hba Hbb
            go_wp2_with fail
            refine (HO1.out _).mono ?_; rintro e w10 ⟨rfl, b_w10⟩
            obtain ⟨s0_w10, s1_w10, s2_w10⟩ := One.keep ⟨s0_w4, s1_w4, s2_w4⟩ b_w10
            obtain ⟨a0_w10, a1_w10, a2_w10⟩ := One.keep ⟨a0_w4, a1_w4, a2_w4⟩ b_w10
            obtain ⟨r0_w10, r1_w10, r2_w10⟩ := One.keep ⟨r0_w4, r1_w4, r2_w4⟩ b_w10
            obtain ⟨o0_w10, o1_w10, o2_w10⟩ := One.keep ⟨o0_w4, o1_w4, o2_w4⟩ b_w10
            have q_w10 := q_w4.keep b_w10
            have eb_w10 := chain eb_w4 (Nat.le_refl _) b_w10
            clear s0_w4 s1_w4 s2_w4 a0_w4 a1_w4 a2_w4 r0_w4 r1_w4 r2_w4 o0_w4 o1_w4 o2_w4 q_w4 eb_w4 b_w10
            go_wp2_with fail
            refine (HO3.out _).mono ?_; rintro e w12 ⟨rfl, b_w12⟩
            obtain ⟨s0_w12, s1_w12, s2_w12⟩ := One.keep ⟨s0_w10, s1_w10, s2_w10⟩ b_w12
            obtain ⟨a0_w12, a1_w12, a2_w12⟩ := One.keep ⟨a0_w10, a1_w10, a2_w10⟩ b_w12
            obtain ⟨r0_w12, r1_w12, r2_w12⟩ := One.keep ⟨r0_w10, r1_w10, r2_w10⟩ b_w12
            obtain ⟨o0_w12, o1_w12, o2_w12⟩ := One.keep ⟨o0_w10, o1_w10, o2_w10⟩ b_w12
            have q_w12 := q_w10.keep b_w12
            have eb_w12 := chain eb_w10 (Nat.le_refl _) b_w12
            clear s0_w10 s1_w10 s2_w10 a0_w10 a1_w10 a2_w10 r0_w10 r1_w10 r2_w10 o0_w10 o1_w10 o2_w10 q_w10 eb_w10 b_w12
            go_wp2_with fail
            refine (HF.out _).mono ?_; rintro e wF ⟨rfl, b_wF⟩
            obtain ⟨s0_wF, s1_wF, s2_wF⟩ := One.keep ⟨s0_w12, s1_w12, s2_w12⟩ b_wF
            obtain ⟨a0_wF, a1_wF, a2_wF⟩ := One.keep ⟨a0_w12, a1_w12, a2_w12⟩ b_wF
            obtain ⟨r0_wF, r1_wF, r2_wF⟩ := One.keep ⟨r0_w12, r1_w12, r2_w12⟩ b_wF
            obtain ⟨o0_wF, o1_wF, o2_wF⟩ := One.keep ⟨o0_w12, o1_w12, o2_w12⟩ b_wF
            have q_wF := q_w12.keep b_wF
            have eb_wF := chain eb_w12 (Nat.le_refl _) b_wF
            clear s0_w12 s1_w12 s2_w12 a0_w12 a1_w12 a2_w12 r0_w12 r1_w12 r2_w12 o0_w12 o1_w12 o2_w12 q_w12 eb_w12 b_wF
            go_wp2_with fail
            go_roundw
            case rel => exact ⟨k + 1, by omega, by go_num, q_wF.alloc _, eb_wF.alloc eb_wF.size _⟩
            case measure => simp [intOf]; omega
        · obtain ⟨t, ht, HT⟩ : ∃ t : Int, (t != 0) = true ∧ Hid (∀ w, Calls Try.prog 16 #[.agg #[.int .i64 y0, .int .i64 y1], .int .u64 n] w fun e w' => e = takeV 0 0 0 0 t ∧ Below w.heap.size w w') := by
            by_cases h : Gd y0 y1 4611686018427387904
            · exact ⟨3, by decide, Lib.hid (Take_range y0 y1 n i0 i1 hn1 h (Int.not_le.1 fun hle => hT ⟨h, hle⟩))⟩
            · exact ⟨2, by decide, Lib.hid (Take_arg y0 y1 n i0 i1 h)⟩
          clear hT
          go_wp2_with (simp only [HN.out])
          refine (HT.out _).mono ?_; rintro e w5 ⟨rfl, b5⟩
          have eb5 := chain q4 (Nat.le_refl _) b5
          go_wp2_with fail
          go_roundw
          case rel =>
            exact ⟨k + 1, by omega, by go_num, ((q3.keep b5).alloc _).alloc _, (eb5.alloc eb5.size _).alloc (by have := eb5.size; simp; omega) _⟩
          case measure => simp [intOf]; omega
    · obtain rfl : k = 2 := by omega
      have HW := Lib.hid wakes_any
      go_wp2_with fail
      refine (HW.out _).mono ?_; rintro e w5 ⟨rfl, b5⟩
      go_wp2_with fail
      go_ret
      exact ⟨rfl, chain hb (Nat.le_refl _) b5⟩

end Go.Proofs.Ytokfhaflfaldnaa
