/- The walk of the law ParseJoins. -/
import Derived.Test.YtcdbdfhikbfbpaaGreatDoorParJn
import Derived.Deep.QuietTactic
import Derived.Deep.RegionWith
import Derived.Deep.DeepCutAuto
import Derived.Laws.IdiomStrings
namespace Go.Proofs.YtcdbdfhikbfbpaaGreatDoor
open Go.ChangeShapes Go.WideShapes Go.ChangeAt Go.RowKit
set_option linter.unusedVariables false

theorem parse_file {s : ByteArray} {f : FM} (h : parseL s.data.toList = .ok f) (w : World) (hE : Env w) (hK : KEnv (fun b => b < w.heap.size) w) :
    Calls Tryz.prog 10 #[.string s] w fun e w' => (∃ g, e = .returned (.tuple #[.pointer (some ⟨g, 1, none⟩), .agg #[.int .i64 0, .int .i64 0], .int .i64 0]) ∧ FileR g w' f) ∧ (f.g.xs.length + f.g.ts.length ≤ 60000 ∧ f.cs.length ≤ 64 ∧ f.ss.length ≤ 64) ∧ Below w.heap.size w w' := by
  refine (Parse_any s w hE hK).mono ?_
  rintro e w' ⟨hp, hb⟩
  rw [h] at hp
  exact ⟨hp.1, hp.2, hb⟩
theorem parse_zero {s : List UInt8} (h : frE (parseL s) = 0) : ∃ f, parseL s = .ok f := by
  unfold parseL at h ⊢
  cases hl : lexL s with
  | bad p e => rw [hl] at h; exact absurd h (lexL_bad_at hl).2
  | ok ts =>
    rw [hl] at h
    dsimp only at h ⊢
    cases hf : fileP ts with
    | ok a l => exact ⟨_, rfl⟩
    | bad l e =>
      exfalso
      have hg := good_fileL (fuel ts) [] [] ts (lexL_wf hl)
      rw [show fileL (fuel ts) [] [] ts = .bad l e from hf] at hg
      rw [hf] at h
      exact hg.2.2 h
theorem extract_small (s : ByteArray) (n : Nat) : (s.extract 0 n).size ≤ n := by simp [ByteArray.size_extract]; omega
set_option maxHeartbeats 8000000 in
set_option maxRecDepth 100000 in
theorem joins_err (s0 t0 : ByteArray) (w : World) (hE : Env w) (hK : KEnv (fun b => b < w.heap.size) w) (s t : ByteArray) (hs : s0.extract 0 (min (s0.size : Int) 8000).toNat = s) (ht : t0.extract 0 (min (t0.size : Int) 8000).toNat = t) (Z : ByteArray) (hZ : s ++ (⟨#[10]⟩ : ByteArray) ++ t = Z) (x1 x2 x3 : Nat) (hx1 : frE (parseL s.data.toList) = x1) (hx2 : frE (parseL t.data.toList) = x2) (hx3 : frE (parseL Z.data.toList) = x3) (hno : x1 ≠ 0 ∨ x2 ≠ 0) :
    Calls Tryz.prog 5 #[.string s0, .string t0] w fun e w' => e = .returned (.bool true) ∧ Below w.heap.size w w' := by
  have zs : s.size ≤ 8000 := by have := extract_small s0 (min (s0.size : Int) 8000).toNat; rw [hs] at this; omega
  have zt : t.size ≤ 8000 := by have := extract_small t0 (min (t0.size : Int) 8000).toNat; rw [ht] at this; omega
  have hZl : Z.data.toList = s.data.toList ++ 10 :: t.data.toList := by rw [← hZ, append_list, append_list]; simp
  have i1 : ¬ 9223372036854775807 < s.size + 1 := by omega
  have i2 : ¬ 9223372036854775807 < s.size + 1 + t.size := by omega
  have HE := Lib.hid (hE.below (Below.refl _ w).drew)
  have HK := Lib.hid (hK.low (Below.refl _ w).drew)
  have HW := Lib.hid fun w hE hK => wakes_any w hE hK
  clear hE hK
  have C1 := Lib.hid fun w hE hK => parse_err s hx1 w hE hK
  have C2 := Lib.hid fun w hE hK => parse_err t hx2 w hE hK
  have C3 := Lib.hid fun w hE hK => parse_err Z hx3 w hE hK
  have hyx : ((x1 : Int) != 0) = true ∨ (((x1 : Int) != 0) = false ∧ ((x2 : Int) != 0) = true) := by
    cases h : ((x1 : Int) != 0)
    · refine .inr ⟨rfl, ?_⟩
      simp at h
      rcases hno with h' | h'
      · omega
      · simp; omega
    · exact .inl rfl
  clear hno hx1 hx2 hx3 hZl
  rcases hyx with hq | ⟨hq, hq2⟩
  all_goals
    go_enter Tryz.func5, Tryz.ntmps5
    go_wp2_with fail
    go_region
    go_wp2_with (first | (go_at_call_of 10 s; refine (C1.out _ HE.out HK.out).mono ?_; rintro e w1 ⟨v1, p1, q1, rfl, hb1⟩; have B1 := Lib.hid (chain (chain (Below.refl w.drew.heap.size w.drew) (Nat.le_refl _) hb1) (Nat.le_refl _) (below_box w1 (.cells #[.int .i64 p1, .int .i64 q1] 24)))) | (go_at_call_of 10 t; refine (C2.out _ (HE.out.below B1.out) (HK.out.low B1.out)).mono ?_; rintro e w2 ⟨v2, p2, q2, rfl, hb2⟩; have B2 := Lib.hid (chain (chain B1.out (Nat.le_refl _) hb2) (Nat.le_refl _) (below_box w2 (.cells #[.int .i64 p2, .int .i64 q2] 24)))) | (go_at_call_of 10 Z; refine (C3.out _ (HE.out.below B2.out) (HK.out.low B2.out)).mono ?_; rintro e w3 ⟨v3, p3, q3, rfl, hb3⟩; have B3 := Lib.hid (chain (chain B2.out (Nat.le_refl _) hb3) (Nat.le_refl _) (below_box w3 (.cells #[.int .i64 p3, .int .i64 q3] 24)))) | (go_at_call 12; first | (have fresh := B4; clear fresh; refine (HW.out _ (HE.out.below B4.out) (HK.out.low B4.out)).mono ?_; rintro e w5 ⟨rfl, hb5⟩; have B5 := Lib.hid (chain B4.out (Nat.le_refl _) hb5)) | (refine (HW.out _ (HE.out.below B3.out) (HK.out.low B3.out)).mono ?_; rintro e w4 ⟨rfl, hb4⟩; have B4 := Lib.hid (chain B3.out (Nat.le_refl _) hb4))))
    go_ret
    exact ⟨rfl, (Below.refl w.heap.size w).drew.trans B5.out⟩
set_option maxHeartbeats 8000000 in
set_option maxRecDepth 100000 in
theorem joins_big (s0 t0 : ByteArray) (w : World) (hE : Env w) (hK : KEnv (fun b => b < w.heap.size) w) (s t : ByteArray) (hs : s0.extract 0 (min (s0.size : Int) 8000).toNat = s) (ht : t0.extract 0 (min (t0.size : Int) 8000).toNat = t) (Z : ByteArray) (hZ : s ++ (⟨#[10]⟩ : ByteArray) ++ t = Z) (f g : FM) (hf : parseL s.data.toList = .ok f) (hg : parseL t.data.toList = .ok g) (x3 : Nat) (hx3 : frE (parseL Z.data.toList) = x3) (hbig : 64 < f.cs.length + g.cs.length ∨ 64 < f.ss.length + g.ss.length) (h10 : x3 = 10) :
    Calls Tryz.prog 5 #[.string s0, .string t0] w fun e w' => e = .returned (.bool true) ∧ Below w.heap.size w w' := by
  have zs : s.size ≤ 8000 := by have := extract_small s0 (min (s0.size : Int) 8000).toNat; rw [hs] at this; omega
  have zt : t.size ≤ 8000 := by have := extract_small t0 (min (t0.size : Int) 8000).toNat; rw [ht] at this; omega
  have hZl : Z.data.toList = s.data.toList ++ 10 :: t.data.toList := by rw [← hZ, append_list, append_list]; simp
  have i1 : ¬ 9223372036854775807 < s.size + 1 := by omega
  have i2 : ¬ 9223372036854775807 < s.size + 1 + t.size := by omega
  have HE := Lib.hid (hE.below (Below.refl _ w).drew)
  have HK := Lib.hid (hK.low (Below.refl _ w).drew)
  have HW := Lib.hid fun w hE hK => wakes_any w hE hK
  clear hE hK
  have C1 := Lib.hid fun w hE hK => parse_file hf w hE hK
  have C2 := Lib.hid fun w hE hK => parse_file hg w hE hK
  clear hf hg hZl
  subst h10
  have C3 := Lib.hid fun w hE hK => parse_err Z hx3 w hE hK
  clear hx3
  have hq : Hid (decide ((64 : Int) < (f.cs.length : Int) + g.cs.length) = true ∨ (decide ((64 : Int) < (f.cs.length : Int) + g.cs.length) = false ∧ decide ((64 : Int) < (f.ss.length : Int) + g.ss.length) = true)) := Lib.hid (by simp only [decide_eq_true_eq, decide_eq_false_iff_not]; omega)
  clear hbig
  go_enter Tryz.func5, Tryz.ntmps5
  go_wp2_with fail
  go_region
  go_wp2_with (first | (go_at_call_of 10 s; refine (C1.out _ HE.out HK.out).mono ?_; rintro e w1 ⟨⟨g1, rfl, hF1⟩, ⟨m1, m2, m3⟩, hb1⟩; have B1 := Lib.hid (chain (chain (Below.refl w.drew.heap.size w.drew) (Nat.le_refl _) hb1) (Nat.le_refl _) (below_box w1 (.cells #[.int .i64 0, .int .i64 0] 24))); have F1 := Lib.hid (hF1.below (below_box w1 (.cells #[.int .i64 0, .int .i64 0] 24))); clear hF1 hb1) | (go_at_call_of 10 t; refine (C2.out _ (HE.out.below B1.out) (HK.out.low B1.out)).mono ?_; rintro e w2 ⟨⟨g2, rfl, hF2⟩, ⟨n1, n2, n3⟩, hb2⟩; have B2 := Lib.hid (chain (chain B1.out (Nat.le_refl _) hb2) (Nat.le_refl _) (below_box w2 (.cells #[.int .i64 0, .int .i64 0] 24))); have F2 := Lib.hid (hF2.below (below_box w2 (.cells #[.int .i64 0, .int .i64 0] 24))); have G1 := Lib.hid ((F1.out.below hb2).below (below_box w2 (.cells #[.int .i64 0, .int .i64 0] 24))); clear hF2 hb2) | (go_at_call_of 10 Z; refine (C3.out _ (HE.out.below B2.out) (HK.out.low B2.out)).mono ?_; rintro e w3 ⟨v3, p3, q3, rfl, hb3⟩; have B3 := Lib.hid (chain (chain B2.out (Nat.le_refl _) hb3) (Nat.le_refl _) (below_box w3 (.cells #[.int .i64 p3, .int .i64 q3] 24))); have H1 := Lib.hid ((G1.out.below hb3).below (below_box w3 (.cells #[.int .i64 p3, .int .i64 q3] 24))); have H2 := Lib.hid ((F2.out.below hb3).below (below_box w3 (.cells #[.int .i64 p3, .int .i64 q3] 24)));  clear hb3) | (go_at_call 12; refine (HW.out _ (HE.out.below B3.out) (HK.out.low B3.out)).mono ?_; rintro e w4 ⟨rfl, hb4⟩; have B4 := Lib.hid (chain B3.out (Nat.le_refl _) hb4); have J1 := Lib.hid (H1.out.below hb4); have J2 := Lib.hid (H2.out.below hb4);  obtain ⟨a11, c11, a12, c12, a13, c13, a14, c14, d11, d12, d13, d14, s11, s12, s13, s14, l1⟩ := J1.out.look; obtain ⟨a21, c21, a22, c22, a23, c23, a24, c24, d21, d22, d23, d24, s21, s22, s23, s24, l2⟩ := J2.out.look;  clear hb4))
  have y1 : IntKind.i64.wrap ((f.cs.length : Int) + g.cs.length) = (f.cs.length : Int) + g.cs.length := IntWalk.i64_in _ (by omega)
  have y2 : IntKind.i64.wrap ((f.ss.length : Int) + g.ss.length) = (f.ss.length : Int) + g.ss.length := IntWalk.i64_in _ (by omega)
  clear s11 s12 s13 s14 s21 s22 s23 s24
  rcases hq.out with z1 | ⟨z1, z2⟩
  all_goals
    refine wp_region_quiet_lit (by kernel_rfl) (by kernel_rfl) ?_
    repeat ((first | with_reducible refine wpQuiet_step (fun K hK => ?_) | refine wpQuiet_step (fun K hK => ?_)); go_simp; with_reducible refine hK _ ?_; clear hK K)
    refine wpQuiet_nil ?_
    intro _ hw'
    obtain ⟨nq, hw''⟩ := hw'
    subst hw''
    go_wp2_with fail
    go_ret
    exact ⟨rfl, (Below.refl w.heap.size w).drew.trans (B4.out.trans (below_drewN _ _ _))⟩
set_option maxHeartbeats 8000000 in
set_option maxRecDepth 100000 in
theorem joins_all (s0 t0 : ByteArray) (w : World) (hE : Env w) (hK : KEnv (fun b => b < w.heap.size) w) (s t : ByteArray) (hs : s0.extract 0 (min (s0.size : Int) 8000).toNat = s) (ht : t0.extract 0 (min (t0.size : Int) 8000).toNat = t) (Z : ByteArray) (hZ : s ++ (⟨#[10]⟩ : ByteArray) ++ t = Z) (f g j : FM) (hf : parseL s.data.toList = .ok f) (hg : parseL t.data.toList = .ok g) (hj : parseL Z.data.toList = .ok j) (hk1 : f.cs.length + g.cs.length ≤ 64) (hk2 : f.ss.length + g.ss.length ≤ 64) (j1 : j.cs = f.cs ++ g.cs) (j2 : j.ss.map (·.s) = f.ss.map (·.s) ++ g.ss.map (·.s)) (j3 : j.g.xs.length = f.g.xs.length + g.g.xs.length) (j4 : j.g.ts.length = f.g.ts.length + g.g.ts.length) :
    Calls Tryz.prog 5 #[.string s0, .string t0] w fun e w' => e = .returned (.bool true) ∧ Below w.heap.size w w' := by
  have zs : s.size ≤ 8000 := by have := extract_small s0 (min (s0.size : Int) 8000).toNat; rw [hs] at this; omega
  have zt : t.size ≤ 8000 := by have := extract_small t0 (min (t0.size : Int) 8000).toNat; rw [ht] at this; omega
  have hZl : Z.data.toList = s.data.toList ++ 10 :: t.data.toList := by rw [← hZ, append_list, append_list]; simp
  have i1 : ¬ 9223372036854775807 < s.size + 1 := by omega
  have i2 : ¬ 9223372036854775807 < s.size + 1 + t.size := by omega
  have HE := Lib.hid (hE.below (Below.refl _ w).drew)
  have HK := Lib.hid (hK.low (Below.refl _ w).drew)
  have HW := Lib.hid fun w hE hK => wakes_any w hE hK
  clear hE hK
  have C1 := Lib.hid fun w hE hK => parse_file hf w hE hK
  have C2 := Lib.hid fun w hE hK => parse_file hg w hE hK
  clear hf hg hZl
  have C3 := Lib.hid fun w hE hK => parse_file hj w hE hK
  clear hj
  have k1 : (j.cs.length : Int) = (f.cs.length : Int) + g.cs.length := by rw [j1, List.length_append]; omega
  have k2 : (j.ss.length : Int) = (f.ss.length : Int) + g.ss.length := by
    have := congrArg List.length j2
    simp only [List.length_map, List.length_append] at this
    omega
  have k3 : (j.g.xs.length : Int) = (f.g.xs.length : Int) + g.g.xs.length := by omega
  have k4 : (j.g.ts.length : Int) = (f.g.ts.length : Int) + g.g.ts.length := by omega
  have M1 := Lib.hid j1
  have M2 := Lib.hid j2
  have N1 := Lib.hid hk1
  have N2 := Lib.hid hk2
  have z1 : decide ((64 : Int) < (f.cs.length : Int) + g.cs.length) = false := by simp only [decide_eq_false_iff_not]; omega
  have z2 : decide ((64 : Int) < (f.ss.length : Int) + g.ss.length) = false := by simp only [decide_eq_false_iff_not]; omega
  have y1 : IntKind.i64.wrap ((f.cs.length : Int) + g.cs.length) = (f.cs.length : Int) + g.cs.length := IntWalk.i64_in _ (by omega)
  have y2 : IntKind.i64.wrap ((f.ss.length : Int) + g.ss.length) = (f.ss.length : Int) + g.ss.length := IntWalk.i64_in _ (by omega)
  clear hk1 hk2 j1 j2 j3 j4
  go_enter Tryz.func5, Tryz.ntmps5
  go_wp2_with fail
  go_region
  go_wp2_with (first | (go_at_call_of 10 s; refine (C1.out _ HE.out HK.out).mono ?_; rintro e w1 ⟨⟨g1, rfl, hF1⟩, ⟨m1, m2, m3⟩, hb1⟩; have B1 := Lib.hid (chain (chain (Below.refl w.drew.heap.size w.drew) (Nat.le_refl _) hb1) (Nat.le_refl _) (below_box w1 (.cells #[.int .i64 0, .int .i64 0] 24))); have F1 := Lib.hid (hF1.below (below_box w1 (.cells #[.int .i64 0, .int .i64 0] 24))); clear hF1 hb1) | (go_at_call_of 10 t; refine (C2.out _ (HE.out.below B1.out) (HK.out.low B1.out)).mono ?_; rintro e w2 ⟨⟨g2, rfl, hF2⟩, ⟨n1, n2, n3⟩, hb2⟩; have B2 := Lib.hid (chain (chain B1.out (Nat.le_refl _) hb2) (Nat.le_refl _) (below_box w2 (.cells #[.int .i64 0, .int .i64 0] 24))); have F2 := Lib.hid (hF2.below (below_box w2 (.cells #[.int .i64 0, .int .i64 0] 24))); have G1 := Lib.hid ((F1.out.below hb2).below (below_box w2 (.cells #[.int .i64 0, .int .i64 0] 24))); clear hF2 hb2) | (go_at_call_of 10 Z; refine (C3.out _ (HE.out.below B2.out) (HK.out.low B2.out)).mono ?_; rintro e w3 ⟨⟨g3, rfl, hF3⟩, ⟨o1, o2, o3⟩, hb3⟩; have B3 := Lib.hid (chain (chain B2.out (Nat.le_refl _) hb3) (Nat.le_refl _) (below_box w3 (.cells #[.int .i64 0, .int .i64 0] 24))); have H1 := Lib.hid ((G1.out.below hb3).below (below_box w3 (.cells #[.int .i64 0, .int .i64 0] 24))); have H2 := Lib.hid ((F2.out.below hb3).below (below_box w3 (.cells #[.int .i64 0, .int .i64 0] 24))); have F3 := Lib.hid (hF3.below (below_box w3 (.cells #[.int .i64 0, .int .i64 0] 24))); clear hF3;  clear hb3) | (go_at_call 12; refine (HW.out _ (HE.out.below B3.out) (HK.out.low B3.out)).mono ?_; rintro e w4 ⟨rfl, hb4⟩; have B4 := Lib.hid (chain B3.out (Nat.le_refl _) hb4); have J1 := Lib.hid (H1.out.below hb4); have J2 := Lib.hid (H2.out.below hb4); have J3 := Lib.hid (F3.out.below hb4);  obtain ⟨a11, c11, a12, c12, a13, c13, a14, c14, d11, d12, d13, d14, s11, s12, s13, s14, l1⟩ := J1.out.look; obtain ⟨a21, c21, a22, c22, a23, c23, a24, c24, d21, d22, d23, d24, s21, s22, s23, s24, l2⟩ := J2.out.look; obtain ⟨a31, c31, a32, c32, a33, c33, a34, c34, d31, d32, d33, d34, s31, s32, s33, s34, l3⟩ := J3.out.look; clear hb4))
  have y3 : IntKind.i64.wrap ((f.g.xs.length : Int) + g.g.xs.length) = (f.g.xs.length : Int) + g.g.xs.length := IntWalk.i64_in _ (by omega)
  have y4 : IntKind.i64.wrap ((f.g.ts.length : Int) + g.g.ts.length) = (f.g.ts.length : Int) + g.g.ts.length := IntWalk.i64_in _ (by omega)
  clear s11 s12 s13 s14 s21 s22 s23 s24 s31 s32 s33 s34
  go_cut [99] (fun s99 wx => s99 = .bool false ∧ Below w4.heap.size w4 wx)
  case first =>
    as_aux_lemma =>
      refine wp_region_quiet_lit (by kernel_rfl) (by kernel_rfl) ?_
      repeat ((first | with_reducible refine wpQuiet_step (fun K hK => ?_) | refine wpQuiet_step (fun K hK => ?_)); go_simp; with_reducible refine hK _ ?_; clear hK K)
      refine wpQuiet_nil ?_
      intro _ hw'
      obtain ⟨nq, hw''⟩ := hw'
      subst hw''
      go_wp2_with fail
      go_meet
      exact ⟨rfl, below_drewN _ _ _⟩
  case rest =>
    as_aux_lemma =>
      obtain ⟨rfl, hcut⟩ := hcut
      clear d11 d12 d13 d14 d21 d22 d23 d24 d31 d32 d33 d34 l1 l2 l3
      have B5 := Lib.hid (B4.out.trans (hcut.mono B4.out.size))
      have K1 := Lib.hid (J1.out.below hcut)
      have K2 := Lib.hid (J2.out.below hcut)
      have K3 := Lib.hid (J3.out.below hcut)
      clear J1 J2 J3 B4 H1 H2 F3 G1 F2 F1 B1 B2 B3 hcut y1 y2 z1 z2
      rename World => W5
      obtain ⟨a11, c11, a12, c12, a13, c13, a14, c14, d11, d12, d13, d14, s11, s12, s13, s14, l1⟩ := K1.out.look
      obtain ⟨a21, c21, a22, c22, a23, c23, a24, c24, d21, d22, d23, d24, s21, s22, s23, s24, l2⟩ := K2.out.look
      obtain ⟨a31, c31, a32, c32, a33, c33, a34, c34, d31, d32, d33, d34, s31, s32, s33, s34, l3⟩ := K3.out.look
      clear s11 s12 s13 s14 s21 s22 s23 s24 s31 s32 s33 s34
      have y1 : IntKind.i64.wrap ((f.cs.length : Int) + g.cs.length) = (f.cs.length : Int) + g.cs.length := IntWalk.i64_in _ (by omega)
      have y2 : IntKind.i64.wrap ((f.ss.length : Int) + g.ss.length) = (f.ss.length : Int) + g.ss.length := IntWalk.i64_in _ (by omega)
      go_wp2_with fail
      go_cut [179] (fun s179 wx => s179 = .bool false ∧ Below W5.heap.size W5 wx)
      case first =>
        as_aux_lemma =>
          refine wp_region_quiet_lit (by kernel_rfl) (by kernel_rfl) ?_
          repeat ((first | with_reducible refine wpQuiet_step (fun K hK => ?_) | refine wpQuiet_step (fun K hK => ?_)); go_simp; with_reducible refine hK _ ?_; clear hK K)
          refine wpQuiet_nil ?_
          intro _ hw'
          obtain ⟨nq, hw''⟩ := hw'
          subst hw''
          go_wp2_with fail
          go_meet
          exact ⟨rfl, below_drewN _ _ _⟩
      case rest =>
        as_aux_lemma =>
          obtain ⟨rfl, hcut⟩ := hcut
          clear d11 d12 d13 d14 d21 d22 d23 d24 d31 d32 d33 d34 l1 l2 l3 y1 y2 y3 y4 k3 k4
          have B6 := Lib.hid (B5.out.trans (hcut.mono B5.out.size))
          have L1 := Lib.hid (K1.out.below hcut)
          have L2 := Lib.hid (K2.out.below hcut)
          have L3 := Lib.hid (K3.out.below hcut)
          clear K1 K2 K3 B5 hcut
          rename World => W6
          obtain ⟨a31, c31, a32, c32, a33, c33, a34, c34, d31, d32, d33, d34, s31, s32, s33, s34, l3⟩ := L3.out.look
          have S1 := Lib.hid s31
          have S2 := Lib.hid s32
          have hjn : j.cs.length ≤ 64 := by omega
          have hjm : j.ss.length ≤ 64 := by omega
          clear s31 s32 s33 s34 k1 k2
          go_wp2_with fail
          go_loopw [185] (fun s185 wr => ∃ x : Nat, s185 = .int .i64 x ∧ x ≤ j.cs.length ∧ Below W6.heap.size W6 wr) (fun s185 _ => j.cs.length - (intOf s185).toNat)
          case atStart => exact ⟨0, rfl, by omega, Below.refl _ _⟩
          case round =>
            as_aux_lemma =>
              obtain ⟨x, rfl, hxn, hbx⟩ := hrel
              have BX := Lib.hid hbx
              by_cases hlt : x < j.cs.length
              · obtain ⟨c, hc⟩ : ∃ c, j.cs[x]? = some c := ⟨_, List.getElem?_eq_getElem hlt⟩
                obtain ⟨k, rfl, hk, c0, c1⟩ := cos_at (S1.out.below CoC.kept hbx) hc
                rw [M1.out] at hc
                have hnew := heap_alloc_new wr (.cells #[.string (bs c.1), .int .u64 (c.2 : Nat)] 57)
                have P1 := L1.out.below (chain hbx (Nat.le_refl _) (below_box wr (.cells #[.string (bs c.1), .int .u64 (c.2 : Nat)] 57)))
                have P2 := L2.out.below (chain hbx (Nat.le_refl _) (below_box wr (.cells #[.string (bs c.1), .int .u64 (c.2 : Nat)] 57)))
                obtain ⟨a11, c11, a12, c12, a13, c13, a14, c14, d11, d12, d13, d14, s11, s12, s13, s14, l1⟩ := P1.look
                obtain ⟨a21, c21, a22, c22, a23, c23, a24, c24, d21, d22, d23, d24, s21, s22, s23, s24, l2⟩ := P2.look
                have BY := Lib.hid (chain hbx (Nat.le_refl _) (below_box wr (.cells #[.string (bs c.1), .int .u64 (c.2 : Nat)] 57)))
                have hltj := hlt
                clear d12 d22 d13 d14 d23 d24 s12 s22 s13 s14 s23 s24 P1 P2 hbx
                by_cases hxf : x < f.cs.length
                · as_aux_lemma =>
                    rw [List.getElem?_append_left hxf] at hc
                    obtain ⟨k', rfl, hk', e0, e1⟩ := cos_at s11 hc
                    have hxI : (x : Int) < (f.cs.length : Int) := by omega
                    have hxJ : ¬ (f.cs.length : Int) ≤ (x : Int) := by omega
                    have hxN : ¬ f.cs.length ≤ x := by omega
                    clear s11 s21 hc d21
                    go_wp2_with fail
                    have b0 : (wr.alloc (.cells #[.string (bs c.1), .int .u64 (c.2 : Nat)] 57)).cell? ⟨wr.heap.size, 0, none⟩ = some (.string (bs c.1)) := by rw [cell_of_row _ _ _ _ _ (0, 0) hnew]; rfl
                    have b1 : (wr.alloc (.cells #[.string (bs c.1), .int .u64 (c.2 : Nat)] 57)).cell? ⟨wr.heap.size, 1, none⟩ = some (.int .u64 (c.2 : Nat)) := by rw [cell_of_row _ _ _ _ _ (0, 0) hnew]; rfl
                    clear hnew c0 c1
                    generalize wr.alloc (.cells #[.string (bs c.1), .int .u64 (c.2 : Nat)] 57) = W7 at d11 e0 e1 b1 b0 BY ⊢
                    refine wp_region_quiet_lit (by kernel_rfl) (by kernel_rfl) ?_
                    repeat ((first | with_reducible refine wpQuiet_step (fun K hK => ?_) | refine wpQuiet_step (fun K hK => ?_)); go_simp; with_reducible refine hK _ ?_; clear hK K)
                    refine wpQuiet_nil ?_
                    intro _ hw'
                    obtain ⟨nq, hw''⟩ := hw'
                    subst hw''
                    go_wp2_with fail
                    go_roundw
                    case rel => exact ⟨x + 1, by go_num, by omega, BY.out.trans (below_drewN _ _ _)⟩
                    case measure => simp [intOf]; omega
                · as_aux_lemma =>
                    rw [List.getElem?_append_right (by omega)] at hc
                    obtain ⟨y, hy⟩ : ∃ y, x - f.cs.length = y := ⟨_, rfl⟩
                    rw [hy] at hc
                    obtain ⟨k', rfl, hk', e0, e1⟩ := cos_at s21 hc
                    have hyl : y < g.cs.length := (List.getElem?_eq_some_iff.1 hc).1
                    have hylI : (y : Int) < (g.cs.length : Int) := by omega
                    have hxI : ¬ (x : Int) < (f.cs.length : Int) := by omega
                    have hxJ : (f.cs.length : Int) ≤ (x : Int) := by omega
                    have hxN : f.cs.length ≤ x := by omega
                    have hxy : (x : Int) - (f.cs.length : Int) = (y : Int) := by omega
                    have hwy : IntKind.i64.wrap (y : Int) = (y : Int) := IntWalk.i64_in _ (by omega)
                    clear s11 s21 hc hy
                    go_wp2_with fail
                    have b0 : (wr.alloc (.cells #[.string (bs c.1), .int .u64 (c.2 : Nat)] 57)).cell? ⟨wr.heap.size, 0, none⟩ = some (.string (bs c.1)) := by rw [cell_of_row _ _ _ _ _ (0, 0) hnew]; rfl
                    have b1 : (wr.alloc (.cells #[.string (bs c.1), .int .u64 (c.2 : Nat)] 57)).cell? ⟨wr.heap.size, 1, none⟩ = some (.int .u64 (c.2 : Nat)) := by rw [cell_of_row _ _ _ _ _ (0, 0) hnew]; rfl
                    clear hnew c0 c1
                    generalize wr.alloc (.cells #[.string (bs c.1), .int .u64 (c.2 : Nat)] 57) = W7 at d11 d21 e0 e1 b1 b0 BY ⊢
                    refine wp_region_quiet_lit (by kernel_rfl) (by kernel_rfl) ?_
                    repeat ((first | with_reducible refine wpQuiet_step (fun K hK => ?_) | refine wpQuiet_step (fun K hK => ?_)); go_simp; with_reducible refine hK _ ?_; clear hK K)
                    refine wpQuiet_nil ?_
                    intro _ hw'
                    obtain ⟨nq, hw''⟩ := hw'
                    subst hw''
                    go_wp2_with fail
                    go_roundw
                    case rel => exact ⟨x + 1, by go_num, by omega, BY.out.trans (below_drewN _ _ _)⟩
                    case measure => simp [intOf]; omega
              · obtain rfl : x = j.cs.length := by omega
                clear hlt hxn
                have d32w : wr.cell? ⟨g3, 2, none⟩ = some (.slice a32 j.ss.length c32) := (BX.out.cell (p := ⟨g3, 2, none⟩) l3).trans d32
                go_wp2_with fail
                go_loopw [240] (fun s240 wr => ∃ x : Nat, s240 = .int .i64 x ∧ x ≤ j.ss.length ∧ Below W6.heap.size W6 wr) (fun s240 _ => j.ss.length - (intOf s240).toNat)
                case atStart => exact ⟨0, rfl, by omega, BX.out⟩
                case round =>
                  as_aux_lemma =>
                    obtain ⟨x, rfl, hxn, hbx⟩ := hrel
                    have BX := Lib.hid hbx
                    by_cases hlt : x < j.ss.length
                    · obtain ⟨c, hc⟩ : ∃ c, j.ss[x]? = some c := ⟨_, List.getElem?_eq_getElem hlt⟩
                      obtain ⟨k, pv, iv, rfl, hk, c0, c1, c2, hpv, hiv⟩ := ss_at (S2.out.below SrC.kept hbx) hc
                      obtain ⟨pa, pc, rfl, -⟩ := hpv.shape
                      obtain ⟨ia, ic, rfl, -⟩ := hiv.shape
                      clear hpv hiv
                      have hc : (j.ss.map (·.s))[x]? = some c.s := by rw [List.getElem?_map, hc]; rfl
                      rw [M2.out] at hc
                      have hnew := heap_alloc_new wr (.cells #[.string (bs c.s), .slice pa c.ps.length pc, .slice ia c.is.length ic] 61)
                      have P1 := L1.out.below (chain hbx (Nat.le_refl _) (below_box wr (.cells #[.string (bs c.s), .slice pa c.ps.length pc, .slice ia c.is.length ic] 61)))
                      have P2 := L2.out.below (chain hbx (Nat.le_refl _) (below_box wr (.cells #[.string (bs c.s), .slice pa c.ps.length pc, .slice ia c.is.length ic] 61)))
                      obtain ⟨a11, c11, a12, c12, a13, c13, a14, c14, d11, d12, d13, d14, s11, s12, s13, s14, l1⟩ := P1.look
                      obtain ⟨a21, c21, a22, c22, a23, c23, a24, c24, d21, d22, d23, d24, s21, s22, s23, s24, l2⟩ := P2.look
                      have BY := Lib.hid (chain hbx (Nat.le_refl _) (below_box wr (.cells #[.string (bs c.s), .slice pa c.ps.length pc, .slice ia c.is.length ic] 61)))
                      have hltj := hlt
                      clear d11 d21 d13 d14 d23 d24 s11 s21 s13 s14 s23 s24 P1 P2 hbx
                      by_cases hxf : x < f.ss.length
                      · as_aux_lemma =>
                          rw [List.getElem?_append_left (by rw [List.length_map]; exact hxf), List.getElem?_map] at hc
                          obtain ⟨c', hc, hcs⟩ := Option.map_eq_some_iff.1 hc
                          obtain ⟨k', _, _, rfl, hk', e0, -⟩ := ss_at s12 hc
                          rw [hcs] at e0
                          have hxI : (x : Int) < (f.ss.length : Int) := by omega
                          have hxJ : ¬ (f.ss.length : Int) ≤ (x : Int) := by omega
                          have hxN : ¬ f.ss.length ≤ x := by omega
                          clear s12 s22 hc d22
                          go_wp2_with fail
                          have b0 : (wr.alloc (.cells #[.string (bs c.s), .slice pa c.ps.length pc, .slice ia c.is.length ic] 61)).cell? ⟨wr.heap.size, 0, none⟩ = some (.string (bs c.s)) := by rw [cell_of_row _ _ _ _ _ (0, 0) hnew]; rfl
                          clear hnew c0 c1 c2
                          generalize wr.alloc (.cells #[.string (bs c.s), .slice pa c.ps.length pc, .slice ia c.is.length ic] 61) = W7 at d12 e0 b0 BY ⊢
                          refine wp_region_quiet_lit (by kernel_rfl) (by kernel_rfl) ?_
                          repeat ((first | with_reducible refine wpQuiet_step (fun K hK => ?_) | refine wpQuiet_step (fun K hK => ?_)); go_simp; with_reducible refine hK _ ?_; clear hK K)
                          refine wpQuiet_nil ?_
                          intro _ hw'
                          obtain ⟨nq, hw''⟩ := hw'
                          subst hw''
                          go_wp2_with fail
                          go_roundw
                          case rel => exact ⟨x + 1, by go_num, by omega, BY.out.trans (below_drewN _ _ _)⟩
                          case measure => simp [intOf]; omega
                      · as_aux_lemma =>
                          rw [List.getElem?_append_right (by rw [List.length_map]; omega), List.getElem?_map, List.length_map] at hc
                          obtain ⟨y, hy⟩ : ∃ y, x - f.ss.length = y := ⟨_, rfl⟩
                          rw [hy] at hc
                          obtain ⟨c', hc, hcs⟩ := Option.map_eq_some_iff.1 hc
                          obtain ⟨k', _, _, rfl, hk', e0, -⟩ := ss_at s22 hc
                          rw [hcs] at e0
                          have hyl : y < g.ss.length := (List.getElem?_eq_some_iff.1 hc).1
                          have hylI : (y : Int) < (g.ss.length : Int) := by omega
                          have hxI : ¬ (x : Int) < (f.ss.length : Int) := by omega
                          have hxJ : (f.ss.length : Int) ≤ (x : Int) := by omega
                          have hxN : f.ss.length ≤ x := by omega
                          have hxy : (x : Int) - (f.ss.length : Int) = (y : Int) := by omega
                          have hwy : IntKind.i64.wrap (y : Int) = (y : Int) := IntWalk.i64_in _ (by omega)
                          clear s12 s22 hc hy
                          go_wp2_with fail
                          have b0 : (wr.alloc (.cells #[.string (bs c.s), .slice pa c.ps.length pc, .slice ia c.is.length ic] 61)).cell? ⟨wr.heap.size, 0, none⟩ = some (.string (bs c.s)) := by rw [cell_of_row _ _ _ _ _ (0, 0) hnew]; rfl
                          clear hnew c0 c1 c2
                          generalize wr.alloc (.cells #[.string (bs c.s), .slice pa c.ps.length pc, .slice ia c.is.length ic] 61) = W7 at d12 d22 e0 b0 BY ⊢
                          refine wp_region_quiet_lit (by kernel_rfl) (by kernel_rfl) ?_
                          repeat ((first | with_reducible refine wpQuiet_step (fun K hK => ?_) | refine wpQuiet_step (fun K hK => ?_)); go_simp; with_reducible refine hK _ ?_; clear hK K)
                          refine wpQuiet_nil ?_
                          intro _ hw'
                          obtain ⟨nq, hw''⟩ := hw'
                          subst hw''
                          go_wp2_with fail
                          go_roundw
                          case rel => exact ⟨x + 1, by go_num, by omega, BY.out.trans (below_drewN _ _ _)⟩
                          case measure => simp [intOf]; omega
                    · obtain rfl : x = j.ss.length := by omega
                      clear hlt hxn
                      go_wp2_with fail
                      go_ret
                      exact ⟨rfl, (Below.refl w.heap.size w).drew.trans (B6.out.trans (BX.out.mono (by have := B6.out.size; exact this)))⟩
theorem ParseJoins_walk (s0 t0 : ByteArray) (w : World) (ws : s0.size ≤ maxLen) (wt : t0.size ≤ maxLen) (hE : Env w) (hK : KEnv (fun b => b < w.heap.size) w) :
    Calls Tryz.prog 5 #[.string s0, .string t0] w fun e w' => e = .returned (.bool true) ∧ Below w.heap.size w w' := by
  obtain ⟨s, hs⟩ : ∃ s, s0.extract 0 (min (s0.size : Int) 8000).toNat = s := ⟨_, rfl⟩
  obtain ⟨t, ht⟩ : ∃ t, t0.extract 0 (min (t0.size : Int) 8000).toNat = t := ⟨_, rfl⟩
  have zs : s.size ≤ 8000 := by have := extract_small s0 (min (s0.size : Int) 8000).toNat; rw [hs] at this; omega
  have zt : t.size ≤ 8000 := by have := extract_small t0 (min (t0.size : Int) 8000).toNat; rw [ht] at this; omega
  obtain ⟨Z, hZ⟩ : ∃ Z, s ++ (⟨#[10]⟩ : ByteArray) ++ t = Z := ⟨_, rfl⟩
  have hZl : Z.data.toList = s.data.toList ++ 10 :: t.data.toList := by rw [← hZ, append_list, append_list]; simp
  by_cases hno : frE (parseL s.data.toList) ≠ 0 ∨ frE (parseL t.data.toList) ≠ 0
  · exact joins_err s0 t0 w hE hK s t hs ht Z hZ _ _ _ rfl rfl rfl hno
  · rw [not_or, Decidable.not_not, Decidable.not_not] at hno
    obtain ⟨f, hf⟩ := parse_zero hno.1
    obtain ⟨g, hg⟩ := parse_zero hno.2
    have hm := join_math (by rw [← size_list]; exact zs) (by rw [← size_list]; exact zt) hf hg
    rw [← hZl] at hm
    rcases hm with ⟨hbig, h10⟩ | ⟨⟨hk1, hk2⟩, j, hj, j1, j2, j3, j4⟩
    · exact joins_big s0 t0 w hE hK s t hs ht Z hZ f g hf hg _ rfl hbig h10
    · exact joins_all s0 t0 w hE hK s t hs ht Z hZ f g j hf hg hj hk1 hk2 j1 j2 j3 j4
end Go.Proofs.YtcdbdfhikbfbpaaGreatDoor
