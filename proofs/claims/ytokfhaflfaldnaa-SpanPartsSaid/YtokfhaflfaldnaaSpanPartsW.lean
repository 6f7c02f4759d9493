/- Layer 5's law SpanParts. -/
import Derived.Test.YtokfhaflfaldnaaSpanWithinW
namespace Go.Proofs.Ytokfhaflfaldnaa
open Go.ChangeShapes Go.WideShapes Go.ChangeAt Go.RowKit
set_option linter.unusedVariables false
attribute [local go_sem ↓] Go.wp_at_zero Go.wp_at_succ

/-- Two new blocks, whichever comes first, beside the row. -/
theorem two_ways4 {w0 W : World} {a l a' l' : Int} {g p : Nat} {z : Nat → Int} {y0 y1 y2 y3 : Int} {t t' : TypeId} (h8 : Eight g z W) (h4 : Four p y0 y1 y2 y3 W) (hb : Below w0.heap.size w0 W) :
    One W.heap.size a l ((W.alloc (.cells #[.int .i64 a, .int .i64 l] t)).alloc (.cells #[.int .i64 a', .int .i64 l'] t')).drew ∧
    One (W.heap.size + 1) a' l' ((W.alloc (.cells #[.int .i64 a, .int .i64 l] t)).alloc (.cells #[.int .i64 a', .int .i64 l'] t')).drew ∧
    Four p y0 y1 y2 y3 ((W.alloc (.cells #[.int .i64 a, .int .i64 l] t)).alloc (.cells #[.int .i64 a', .int .i64 l'] t')).drew ∧
    Eight g z ((W.alloc (.cells #[.int .i64 a, .int .i64 l] t)).alloc (.cells #[.int .i64 a', .int .i64 l'] t')).drew ∧
    Below w0.heap.size w0 ((W.alloc (.cells #[.int .i64 a, .int .i64 l] t)).alloc (.cells #[.int .i64 a', .int .i64 l'] t')).drew := by
  obtain ⟨h1, h2, h3, h5⟩ := two_ways (a := a) (l := l) (a' := a') (l' := l') (t := t) (t' := t') h8 hb
  exact ⟨h1, h2, (h4.alloc _).alloc _, h3, h5⟩

/-- The two numbers of bytes that a round takes. -/
def TwoU (g : Nat) (u : Nat → Int) (w : World) : Prop := g < w.heap.size ∧ (∀ j, j < 2 → w.cell? ⟨g, j, none⟩ = some (.int .u64 (u j))) ∧ ∀ j, 0 ≤ u j ∧ u j ≤ 18446744073709551615
theorem TwoU.keep {g : Nat} {u : Nat → Int} {w w' : World} (h : TwoU g u w) (hb : Below w.heap.size w w') : TwoU g u w' :=
  ⟨Nat.lt_of_lt_of_le h.1 hb.size, fun j hj => (hb.cell (show g < _ from h.1)).trans (h.2.1 j hj), h.2.2⟩
theorem TwoU.mk {w : World} {x y : Int} {t : TypeId} (hx : 0 ≤ x ∧ x ≤ 18446744073709551615) (hy : 0 ≤ y ∧ y ≤ 18446744073709551615) : TwoU w.heap.size (fun j => if j = 0 then x else y) (w.alloc (.cells #[.int .u64 x, .int .u64 y] t)) := by
  refine ⟨by simp, fun j hj => ?_, fun j => by dsimp only; split <;> assumption⟩
  rw [cell_of_row _ _ _ _ _ (0, 0) (heap_alloc_new w _)]
  match j, hj with
  | 0, _ => rfl
  | 1, _ => rfl

/-- What is held while the last test of a round calls. -/
def PartsS (W0 : World) (s o p a b c d g : Nat) (z : Nat → Int) (y0 y1 y2 y3 fp fq bp bq : Int) (w' : World) : Prop :=
  w'.cell? ⟨s, 0, none⟩ = some (.int .i64 y0) ∧ w'.cell? ⟨s, 1, none⟩ = some (.int .i64 y1) ∧ s < w'.heap.size ∧ w'.cell? ⟨o, 0, none⟩ = some (.int .i64 y2) ∧ w'.cell? ⟨o, 1, none⟩ = some (.int .i64 y3) ∧ o < w'.heap.size ∧ w'.cell? ⟨a, 0, none⟩ = some (.int .i64 fp) ∧ w'.cell? ⟨a, 1, none⟩ = some (.int .i64 fq) ∧ a < w'.heap.size ∧ w'.cell? ⟨b, 0, none⟩ = some (.int .i64 fp) ∧ w'.cell? ⟨b, 1, none⟩ = some (.int .i64 fq) ∧ b < w'.heap.size ∧ w'.cell? ⟨c, 0, none⟩ = some (.int .i64 bp) ∧ w'.cell? ⟨c, 1, none⟩ = some (.int .i64 bq) ∧ c < w'.heap.size ∧ w'.cell? ⟨d, 0, none⟩ = some (.int .i64 bp) ∧ w'.cell? ⟨d, 1, none⟩ = some (.int .i64 bq) ∧ d < w'.heap.size ∧ w'.cell? ⟨p, 0, none⟩ = some (.int .i64 y0) ∧ w'.cell? ⟨p, 1, none⟩ = some (.int .i64 y1) ∧ w'.cell? ⟨p, 2, none⟩ = some (.int .i64 y2) ∧ w'.cell? ⟨p, 3, none⟩ = some (.int .i64 y3) ∧ p < w'.heap.size ∧ Eight g z w' ∧ Below W0.heap.size W0 w'
theorem PartsS.keep {W0 w1 w2 : World} {s o p a b c d g : Nat} {z : Nat → Int} {y0 y1 y2 y3 fp fq bp bq : Int} (hb : Below w1.heap.size w1 w2) (h : PartsS W0 s o p a b c d g z y0 y1 y2 y3 fp fq bp bq w1) : PartsS W0 s o p a b c d g z y0 y1 y2 y3 fp fq bp bq w2 := by
  obtain ⟨s0, s1, s2, o0, o1, o2, a0, a1, a2, b0, b1, b2, c0, c1, c2, d0, d1, d2, p0, p1, p2, p3, p4, h8, hB⟩ := h
  obtain ⟨s0, s1, s2⟩ := One.keep ⟨s0, s1, s2⟩ hb
  obtain ⟨o0, o1, o2⟩ := One.keep ⟨o0, o1, o2⟩ hb
  obtain ⟨a0, a1, a2⟩ := One.keep ⟨a0, a1, a2⟩ hb
  obtain ⟨b0, b1, b2⟩ := One.keep ⟨b0, b1, b2⟩ hb
  obtain ⟨c0, c1, c2⟩ := One.keep ⟨c0, c1, c2⟩ hb
  obtain ⟨d0, d1, d2⟩ := One.keep ⟨d0, d1, d2⟩ hb
  obtain ⟨p0, p1, p2, p3, p4⟩ := Four.keep ⟨p0, p1, p2, p3, p4⟩ hb
  exact ⟨s0, s1, s2, o0, o1, o2, a0, a1, a2, b0, b1, b2, c0, c1, c2, d0, d1, d2, p0, p1, p2, p3, p4, h8.keep hb, chain hB (Nat.le_refl _) hb⟩

set_option maxRecDepth 100000 in
set_option maxHeartbeats 4000000 in
theorem SpanParts_walk (x0a x0b x0c x0d : Int) (a1 : Int) (w : World) (w0a : (Lit.int .i64 x0a).wf = true) (w0b : (Lit.int .i64 x0b).wf = true) (w0c : (Lit.int .i64 x0c).wf = true) (w0d : (Lit.int .i64 x0d).wf = true) (w1 : (Lit.int .u64 a1).wf = true) :
    Calls Try.prog 4 #[.agg #[.int .i64 x0a, .int .i64 x0b, .int .i64 x0c, .int .i64 x0d], .int .u64 a1] w fun e w' => e = .returned (.bool true) ∧ Below w.heap.size w w' := by
  have HS := Lib.hid (fun w => some_any x0a x0b x0c x0d (i64_of w0a) (i64_of w0b) (i64_of w0c) (i64_of w0d) w)
  have hu := u64_of w1
  obtain ⟨n, hn, hn0⟩ : ∃ n : Int, bits .and .u64 a1 15 = n ∧ 0 ≤ n ∧ n ≤ 18446744073709551615 := ⟨_, rfl, bits_lo_u64 _ _ _, bits_hi_u64 _ _ _⟩
  have HN := Lib.hid hn
  clear w0a w0b w0c w0d w1 hn
  go_enter Try.func4, Try.ntmps4
  go_wp2_with fail
  refine (HS.out _).mono ?_; rintro e wa ⟨g, z, rfl, hg, h8, ba⟩
  have bb := chain (below_box w _) (Nat.le_refl _) ba
  have hwg : w.heap.size < g := by simp at hg; omega
  clear hg
  go_wp2_with fail
  go_loopw [27] (fun i wr => ∃ k : Nat, k ≤ 2 ∧ i = .int .i64 k ∧ Eight g z wr ∧ Below w.heap.size w wr) (fun i _ => 2 - (intOf i).toNat)
  case atStart => exact ⟨0, by omega, rfl, h8, bb⟩
  case round =>
    clear h8 bb ba
    obtain ⟨k, hk, rfl, h8, hb⟩ := hrel
    by_cases hlt : k < 2
    · obtain ⟨y0, y1, y2, y3, ⟨i0, i1, i2, i3⟩, c0, c1, c2, c3⟩ := h8.row hlt
      have f4 := (Four.mk (w := wr) (y0 := y0) (y1 := y1) (y2 := y2) (y3 := y3) (t := 22))
      have f8 := (h8.alloc (.cells #[.int .i64 y0, .int .i64 y1, .int .i64 y2, .int .i64 y3] 22))
      have fb := chain hb (Nat.le_refl _) (below_box wr (.cells #[.int .i64 y0, .int .i64 y1, .int .i64 y2, .int .i64 y3] 22))
      go_upto_region 4 with fail
      generalize wr.alloc (.cells #[.int .i64 y0, .int .i64 y1, .int .i64 y2, .int .i64 y3] 22) = W at *
      generalize wr.heap.size = p at *
      have f4' := f4
      obtain ⟨d0, d1, d2, d3, d4⟩ := f4
      clear c0 c1 c2 c3 h8 hb
      have n0 := World.new_ne W _ d0
      have n1 := World.new_ne W _ d1
      have n2 := World.new_ne W _ d2
      have n3 := World.new_ne W _ d3
      go_cut [7, 8] (fun s7 s8 wx => ∃ s o : Nat, s7 = .pointer (some ⟨s, 0, none⟩) ∧ s8 = .pointer (some ⟨o, 0, none⟩) ∧ One s y0 y1 wx ∧ One o y2 y3 wx ∧ Four p y0 y1 y2 y3 wx ∧ Eight g z wx ∧ Below w.heap.size w wx)
      case first =>
        go_region_held3 (fun w' => w'.cell? ⟨p, 0, none⟩ = some (.int .i64 y0) ∧ w'.cell? ⟨p, 1, none⟩ = some (.int .i64 y1) ∧ w'.cell? ⟨p, 2, none⟩ = some (.int .i64 y2) ∧ w'.cell? ⟨p, 3, none⟩ = some (.int .i64 y3))
          (go_keep)
          (fail)
        all_goals
          go_wp2_with fail
          go_meet
        · obtain ⟨q1, q2, q5, q3, q4⟩ := two_ways4 (a := y0) (l := y1) (a' := y2) (l' := y3) (t := 26) (t' := 26) f8 f4' fb
          exact ⟨_, _, rfl, rfl, q1, q2, q5, q3, q4⟩
        · obtain ⟨q1, q2, q5, q3, q4⟩ := two_ways4 (a := y2) (l := y3) (a' := y0) (l' := y1) (t := 26) (t' := 26) f8 f4' fb
          exact ⟨_, _, rfl, rfl, q2, q1, q5, q3, q4⟩
      case rest =>
        obtain ⟨s, o, rfl, rfl, q1, q2, q5, q3, q4⟩ := hcut
        clear d0 d1 d2 d3 d4 n0 n1 n2 n3 f8 fb f4'
        have v1 := q1.alloc (.cells #[.int .u64 a1, .int .u64 n] 36)
        have v2 := q2.alloc (.cells #[.int .u64 a1, .int .u64 n] 36)
        have v3 := q3.alloc (.cells #[.int .u64 a1, .int .u64 n] 36)
        have v5 := q5.alloc (.cells #[.int .u64 a1, .int .u64 n] 36)
        have v4 := chain q4 (Nat.le_refl _) (below_box wc (.cells #[.int .u64 a1, .int .u64 n] 36))
        have v6 := TwoU.mk (w := wc) (x := a1) (y := n) (t := 36) hu hn0
        clear q1 q2 q3 q4 q5
        go_wp2_with (simp only [HN.out])
        generalize wc.alloc (.cells #[.int .u64 a1, .int .u64 n] 36) = W5 at *
        generalize wc.heap.size = gu at *
        generalize (fun j : Nat => if j = 0 then a1 else n) = u at *
        go_loopw [46] (fun i wx => ∃ j : Nat, j ≤ 2 ∧ i = .int .i64 j ∧ One s y0 y1 wx ∧ One o y2 y3 wx ∧ Four p y0 y1 y2 y3 wx ∧ Eight g z wx ∧ Below w.heap.size w wx ∧ TwoU gu u wx) (fun i _ => 2 - (intOf i).toNat)
        case atStart => exact ⟨0, by omega, rfl, v1, v2, v5, v3, v4, v6⟩
        case round =>
          clear v1 v2 v3 v4 v5 v6
          obtain ⟨j, hj, rfl, v1, v2, v5, v3, v4, v6⟩ := hrel
          by_cases hjt : j < 2
          · obtain ⟨v, hv, hv0, hv1⟩ : ∃ v : Int, wr.cell? ⟨gu, j, none⟩ = some (.int .u64 v) ∧ 0 ≤ v ∧ v ≤ 18446744073709551615 := ⟨_, v6.2.1 j hjt, v6.2.2 j⟩
            obtain ⟨tp, tq, tr, ts, te, _, hT, hT'⟩ := take_both y0 y1 v i0 i1 hv0 hv1
            have HT := Lib.hid hT
            have HT' := Lib.hid hT'
            clear hT hT'
            obtain ⟨s0, s1, s2⟩ := v1
            obtain ⟨d0, d1, d2, d3, d4⟩ := v5
            go_wp2_with fail
            refine (HT.out _).mono ?_; rintro e w6 ⟨rfl, b6⟩
            have k1 := (One.keep ⟨s0, s1, s2⟩ b6)
            have k2 := v2.keep b6
            have k5 := (Four.keep ⟨d0, d1, d2, d3, d4⟩ b6)
            have k3 := v3.keep b6
            have k6 := v6.keep b6
            have k4 := chain v4 (Nat.le_refl _) b6
            clear s0 s1 s2 d0 d1 d2 d3 d4 v2 v3 v4 v6 b6 hv
            have l1 := (k1.alloc (.cells #[.int .i64 tp, .int .i64 tq] 26)).alloc (.cells #[.int .i64 tr, .int .i64 ts] 26)
            have l2 := (k2.alloc (.cells #[.int .i64 tp, .int .i64 tq] 26)).alloc (.cells #[.int .i64 tr, .int .i64 ts] 26)
            have l3 := (k3.alloc (.cells #[.int .i64 tp, .int .i64 tq] 26)).alloc (.cells #[.int .i64 tr, .int .i64 ts] 26)
            have l5 := (k5.alloc (.cells #[.int .i64 tp, .int .i64 tq] 26)).alloc (.cells #[.int .i64 tr, .int .i64 ts] 26)
            have l4 := chain k4 (Nat.le_refl _) (below_two w6 (.cells #[.int .i64 tp, .int .i64 tq] 26) (.cells #[.int .i64 tr, .int .i64 ts] 26))
            have l6 := k6.keep (below_two w6 (.cells #[.int .i64 tp, .int .i64 tq] 26) (.cells #[.int .i64 tr, .int .i64 ts] 26))
            obtain ⟨t0, t1, t2, t3, t4⟩ := Two.mk (w := w6) (a := tp) (l := tq) (a' := tr) (l' := ts) (t := 26) (t' := 26)
            clear k1 k2 k3 k4 k5 k6
            obtain ⟨d0, d1, d2, d3, d4⟩ := l5
            go_wp2_with fail
            generalize (w6.alloc (.cells #[.int .i64 tp, .int .i64 tq] 26)).alloc (.cells #[.int .i64 tr, .int .i64 ts] 26) = W6 at *
            generalize w6.heap.size = p6 at *
            refine (HT'.out _).mono ?_; rintro e w7 ⟨rfl, b7⟩
            obtain ⟨t0, t1, t2, t3, t4⟩ := Two.keep ⟨t0, t1, t2, t3, t4⟩ b7
            have t5 : p6 < w7.heap.size := by omega
            have k1 := l1.keep b7
            have k2 := l2.keep b7
            have k3 := l3.keep b7
            have k5 := Four.keep ⟨d0, d1, d2, d3, d4⟩ b7
            have k6 := l6.keep b7
            have k4 := chain l4 (Nat.le_refl _) b7
            clear d0 d1 d2 d3 d4 l1 l2 l3 l4 l6 b7
            go_wp2_with fail
            go_roundw
            case rel => exact ⟨j + 1, by omega, by go_num, k1.alloc _, k2.alloc _, k5.alloc _, k3.alloc _, k4.alloc k4.size _, k6.keep (below_box _ _)⟩
            case measure => simp [intOf]; omega
          · obtain rfl : j = 2 := by omega
            obtain ⟨fp, fq, ft, _, hF, hF'⟩ := from_both y0 y1 y2 i0 i1 i2
            obtain ⟨bp, bq, bt, _, hB, hB'⟩ := between_both y0 y1 y2 y3 i0 i1 i2 i3
            have HF := Lib.hid hF
            have HF' := Lib.hid hF'
            have HB := Lib.hid hB
            have HB' := Lib.hid hB'
            have HH := Lib.hid (fun w => Has_any y0 y1 y2 y3 i0 i1 i2 i3 w)
            have HH' := Lib.hid (fun w => refHas_any y0 y1 y2 y3 i0 i1 i2 i3 w)
            generalize hasB y0 y1 y2 y3 = vh at HH HH'
            clear hF hF' hB hB' v6
            obtain ⟨s0, s1, s2⟩ := v1
            obtain ⟨o0, o1, o2⟩ := v2
            obtain ⟨p0, p1, p2, p3, p4⟩ := v5
            go_wp2_with fail
            refine (HF.out _).mono ?_; rintro e wA ⟨rfl, bw⟩
            obtain ⟨s0, s1, s2⟩ := (One.keep ⟨s0, s1, s2⟩ bw).alloc (.cells #[.int .i64 fp, .int .i64 fq] 26)
            obtain ⟨o0, o1, o2⟩ := (One.keep ⟨o0, o1, o2⟩ bw).alloc (.cells #[.int .i64 fp, .int .i64 fq] 26)
            obtain ⟨p0, p1, p2, p3, p4⟩ := (Four.keep ⟨p0, p1, p2, p3, p4⟩ bw).alloc (.cells #[.int .i64 fp, .int .i64 fq] 26)
            have v3 := (v3.keep bw).alloc (.cells #[.int .i64 fp, .int .i64 fq] 26)
            have v4 := chain (chain v4 (Nat.le_refl _) bw) (Nat.le_refl _) (below_box wA (.cells #[.int .i64 fp, .int .i64 fq] 26))
            obtain ⟨a0, a1, a2⟩ := One.mk (w := wA) (a := fp) (l := fq) (t := 26)
            clear bw
            go_wp2_with fail
            generalize wA.alloc (.cells #[.int .i64 fp, .int .i64 fq] 26) = WwA at *
            generalize wA.heap.size = a at *
            refine (HF'.out _).mono ?_; rintro e wB ⟨rfl, bw⟩
            obtain ⟨s0, s1, s2⟩ := (One.keep ⟨s0, s1, s2⟩ bw).alloc (.cells #[.int .i64 fp, .int .i64 fq] 45)
            obtain ⟨o0, o1, o2⟩ := (One.keep ⟨o0, o1, o2⟩ bw).alloc (.cells #[.int .i64 fp, .int .i64 fq] 45)
            obtain ⟨a0, a1, a2⟩ := (One.keep ⟨a0, a1, a2⟩ bw).alloc (.cells #[.int .i64 fp, .int .i64 fq] 45)
            obtain ⟨p0, p1, p2, p3, p4⟩ := (Four.keep ⟨p0, p1, p2, p3, p4⟩ bw).alloc (.cells #[.int .i64 fp, .int .i64 fq] 45)
            have v3 := (v3.keep bw).alloc (.cells #[.int .i64 fp, .int .i64 fq] 45)
            have v4 := chain (chain v4 (Nat.le_refl _) bw) (Nat.le_refl _) (below_box wB (.cells #[.int .i64 fp, .int .i64 fq] 45))
            obtain ⟨b0, b1, b2⟩ := One.mk (w := wB) (a := fp) (l := fq) (t := 45)
            clear bw
            go_wp2_with fail
            generalize wB.alloc (.cells #[.int .i64 fp, .int .i64 fq] 45) = WwB at *
            generalize wB.heap.size = b at *
            refine (HB.out _).mono ?_; rintro e wC ⟨rfl, bw⟩
            obtain ⟨s0, s1, s2⟩ := (One.keep ⟨s0, s1, s2⟩ bw).alloc (.cells #[.int .i64 bp, .int .i64 bq] 26)
            obtain ⟨o0, o1, o2⟩ := (One.keep ⟨o0, o1, o2⟩ bw).alloc (.cells #[.int .i64 bp, .int .i64 bq] 26)
            obtain ⟨a0, a1, a2⟩ := (One.keep ⟨a0, a1, a2⟩ bw).alloc (.cells #[.int .i64 bp, .int .i64 bq] 26)
            obtain ⟨b0, b1, b2⟩ := (One.keep ⟨b0, b1, b2⟩ bw).alloc (.cells #[.int .i64 bp, .int .i64 bq] 26)
            obtain ⟨p0, p1, p2, p3, p4⟩ := (Four.keep ⟨p0, p1, p2, p3, p4⟩ bw).alloc (.cells #[.int .i64 bp, .int .i64 bq] 26)
            have v3 := (v3.keep bw).alloc (.cells #[.int .i64 bp, .int .i64 bq] 26)
            have v4 := chain (chain v4 (Nat.le_refl _) bw) (Nat.le_refl _) (below_box wC (.cells #[.int .i64 bp, .int .i64 bq] 26))
            obtain ⟨c0, c1, c2⟩ := One.mk (w := wC) (a := bp) (l := bq) (t := 26)
            clear bw
            go_wp2_with fail
            generalize wC.alloc (.cells #[.int .i64 bp, .int .i64 bq] 26) = WwC at *
            generalize wC.heap.size = c at *
            refine (HB'.out _).mono ?_; rintro e wD ⟨rfl, bw⟩
            obtain ⟨s0, s1, s2⟩ := (One.keep ⟨s0, s1, s2⟩ bw).alloc (.cells #[.int .i64 bp, .int .i64 bq] 45)
            obtain ⟨o0, o1, o2⟩ := (One.keep ⟨o0, o1, o2⟩ bw).alloc (.cells #[.int .i64 bp, .int .i64 bq] 45)
            obtain ⟨a0, a1, a2⟩ := (One.keep ⟨a0, a1, a2⟩ bw).alloc (.cells #[.int .i64 bp, .int .i64 bq] 45)
            obtain ⟨b0, b1, b2⟩ := (One.keep ⟨b0, b1, b2⟩ bw).alloc (.cells #[.int .i64 bp, .int .i64 bq] 45)
            obtain ⟨c0, c1, c2⟩ := (One.keep ⟨c0, c1, c2⟩ bw).alloc (.cells #[.int .i64 bp, .int .i64 bq] 45)
            obtain ⟨p0, p1, p2, p3, p4⟩ := (Four.keep ⟨p0, p1, p2, p3, p4⟩ bw).alloc (.cells #[.int .i64 bp, .int .i64 bq] 45)
            have v3 := (v3.keep bw).alloc (.cells #[.int .i64 bp, .int .i64 bq] 45)
            have v4 := chain (chain v4 (Nat.le_refl _) bw) (Nat.le_refl _) (below_box wD (.cells #[.int .i64 bp, .int .i64 bq] 45))
            obtain ⟨d0, d1, d2⟩ := One.mk (w := wD) (a := bp) (l := bq) (t := 45)
            clear bw
            go_wp2_with fail
            generalize wD.alloc (.cells #[.int .i64 bp, .int .i64 bq] 45) = WwD at *
            generalize wD.heap.size = d at *
            go_region_held3 (fun w' => w'.cell? ⟨s, 0, none⟩ = some (.int .i64 y0) ∧ w'.cell? ⟨s, 1, none⟩ = some (.int .i64 y1) ∧ s < w'.heap.size ∧ w'.cell? ⟨o, 0, none⟩ = some (.int .i64 y2) ∧ w'.cell? ⟨o, 1, none⟩ = some (.int .i64 y3) ∧ o < w'.heap.size ∧ w'.cell? ⟨a, 0, none⟩ = some (.int .i64 fp) ∧ w'.cell? ⟨a, 1, none⟩ = some (.int .i64 fq) ∧ a < w'.heap.size ∧ w'.cell? ⟨b, 0, none⟩ = some (.int .i64 fp) ∧ w'.cell? ⟨b, 1, none⟩ = some (.int .i64 fq) ∧ b < w'.heap.size ∧ w'.cell? ⟨c, 0, none⟩ = some (.int .i64 bp) ∧ w'.cell? ⟨c, 1, none⟩ = some (.int .i64 bq) ∧ c < w'.heap.size ∧ w'.cell? ⟨d, 0, none⟩ = some (.int .i64 bp) ∧ w'.cell? ⟨d, 1, none⟩ = some (.int .i64 bq) ∧ d < w'.heap.size ∧ w'.cell? ⟨p, 0, none⟩ = some (.int .i64 y0) ∧ w'.cell? ⟨p, 1, none⟩ = some (.int .i64 y1) ∧ w'.cell? ⟨p, 2, none⟩ = some (.int .i64 y2) ∧ w'.cell? ⟨p, 3, none⟩ = some (.int .i64 y3) ∧ p < w'.heap.size ∧ Eight g z w' ∧ Below w.heap.size w w')
              (first | exact ⟨s0, s1, s2, o0, o1, o2, a0, a1, a2, b0, b1, b2, c0, c1, c2, d0, d1, d2, p0, p1, p2, p3, p4, v3, below_drew v4⟩ | (refine PartsS.keep (by assumption) ?_; assumption) | (go_split_ands; (repeat' apply And.intro) <;> assumption) | go_keep)
              (first | ((with_reducible refine (HH.out _).mono ?_); rintro e4 w4 ⟨rfl, b4⟩) | ((with_reducible refine (HH'.out _).mono ?_); rintro e4 w4 ⟨rfl, rfl⟩))
            rename_i hHeld
            obtain ⟨_, _, _, _, _, _, _, _, _, _, _, _, _, _, _, _, _, _, _, _, _, _, _, h8, hB⟩ := hHeld
            clear s0 s1 s2 o0 o1 o2 a0 a1 a2 b0 b1 b2 c0 c1 c2 d0 d1 d2 p0 p1 p2 p3 p4 v3 v4
            go_wp2_with fail
            go_roundw
            case rel =>
              first
                | exact ⟨k + 1, by omega, by go_num, h8, hB⟩
                | ((repeat apply Exists.intro); exact ⟨⟨k + 1, by omega, by go_num, h8, hB⟩, rfl⟩)
            case measure => simp [intOf]; omega
    · obtain rfl : k = 2 := by omega
      have HW := Lib.hid wakes_any
      go_wp2_with fail
      refine (HW.out _).mono ?_; rintro e w5 ⟨rfl, b5⟩
      go_wp2_with fail
      go_ret
      exact ⟨rfl, chain hb (Nat.le_refl _) b5⟩

end Go.Proofs.Ytokfhaflfaldnaa
