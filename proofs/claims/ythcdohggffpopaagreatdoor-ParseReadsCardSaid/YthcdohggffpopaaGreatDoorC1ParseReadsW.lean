/- Layer 7: the program's File and the document's are found the same by the law's own comparison. · Layer 7: wakes. · The walk of the law ParseReads. -/
import Derived.Test.YthcdohggffpopaaGreatDoorC1Same
import Derived.StillTailTactics
import Derived.BigQuiet
import Derived.Deep.QuietTactic
import Derived.Deep.DeepCutAuto
import Derived.Test.YthcdohggffpopaaGreatDoorC1ParPa
import Derived.Test.YthcdohggffpopaaGreatDoorC1DocP
namespace Go.Proofs.YthcdohggffpopaaGreatDoor
open Go.Lib (hid)
open Go.ChangeShapes Go.WideShapes Go.ChangeAt Go.RowKit
theorem cells4 {T : TypeId} {w : World} {k : Nat} {v0 v1 v2 v3 : Value} (h : w.heap[k]? = some (.cells #[v0, v1, v2, v3] T (0, 0))) :
    (w.cell? ⟨k, 0, none⟩ = some v0 ∧ w.cell? ⟨k, 1, none⟩ = some v1 ∧ w.cell? ⟨k, 2, none⟩ = some v2 ∧ w.cell? ⟨k, 3, none⟩ = some v3) ∧ (∀ j, w.frozen? ⟨k, j, none⟩ = false) ∧ k < w.heap.size :=
  ⟨⟨by rw [cell_of_row _ _ _ _ _ (0, 0) h]; rfl, by rw [cell_of_row _ _ _ _ _ (0, 0) h]; rfl, by rw [cell_of_row _ _ _ _ _ (0, 0) h]; rfl, by rw [cell_of_row _ _ _ _ _ (0, 0) h]; rfl⟩, fun j => by simp [World.frozen?, h], (Array.getElem?_eq_some_iff.1 h).1⟩
theorem cells5 {T : TypeId} {w : World} {k : Nat} {v0 v1 v2 v3 v4 : Value} (h : w.heap[k]? = some (.cells #[v0, v1, v2, v3, v4] T (0, 0))) :
    (w.cell? ⟨k, 0, none⟩ = some v0 ∧ w.cell? ⟨k, 1, none⟩ = some v1 ∧ w.cell? ⟨k, 2, none⟩ = some v2 ∧ w.cell? ⟨k, 3, none⟩ = some v3 ∧ w.cell? ⟨k, 4, none⟩ = some v4) ∧ (∀ j, w.frozen? ⟨k, j, none⟩ = false) ∧ k < w.heap.size :=
  ⟨⟨by rw [cell_of_row _ _ _ _ _ (0, 0) h]; rfl, by rw [cell_of_row _ _ _ _ _ (0, 0) h]; rfl, by rw [cell_of_row _ _ _ _ _ (0, 0) h]; rfl, by rw [cell_of_row _ _ _ _ _ (0, 0) h]; rfl, by rw [cell_of_row _ _ _ _ _ (0, 0) h]; rfl⟩, fun j => by simp [World.frozen?, h], (Array.getElem?_eq_some_iff.1 h).1⟩
set_option maxHeartbeats 8000000 in
set_option maxRecDepth 100000 in
theorem file_eq (f : FM) (g : Nat) (w : World) (b1 b2 b3 b4 : Option Addr) (e1 e2 e3 e4 : Nat) (hF : FileR g w f) (h1 : SlR 2 CoC w (.slice b1 f.cs.length e1) f.cs) (h2 : SlR 3 SrC w (.slice b2 f.ss.length e2) f.ss) (h3 : SlR 5 XrC w (.slice b3 f.g.xs.length e3) f.g.xs) (h4 : SlR 8 TrC w (.slice b4 f.g.ts.length e4) f.g.ts) :
    Calls Tryz.prog 46 #[.pointer (some ⟨g, 1, none⟩), .agg #[.slice b1 f.cs.length e1, .slice b2 f.ss.length e2, .slice b3 f.g.xs.length e3, .slice b4 f.g.ts.length e4]] w fun e w' => e = .returned (.bool true) ∧ Below w.heap.size w w' := by
  obtain ⟨-, m1, m2⟩ := sl_bounds h1
  obtain ⟨-, m3, m4⟩ := sl_bounds h2
  obtain ⟨-, m5, m6⟩ := sl_bounds h3
  obtain ⟨-, m7, m8⟩ := sl_bounds h4
  have hB := below_box w (.cells #[.slice b1 f.cs.length e1, .slice b2 f.ss.length e2, .slice b3 f.g.xs.length e3, .slice b4 f.g.ts.length e4] 33)
  have hX := heap_alloc_new w (.cells #[.slice b1 f.cs.length e1, .slice b2 f.ss.length e2, .slice b3 f.g.xs.length e3, .slice b4 f.g.ts.length e4] 33)
  obtain ⟨W, hW⟩ : ∃ W, w.alloc (.cells #[.slice b1 f.cs.length e1, .slice b2 f.ss.length e2, .slice b3 f.g.xs.length e3, .slice b4 f.g.ts.length e4] 33) = W := ⟨_, rfl⟩
  have HW := hid hW
  rw [hW] at hB hX
  have HB := hid hB
  have HX := hid hX
  have HF := hid (hF.below hB)
  have H1 := hid (h1.below CoC.kept hB)
  have H2 := hid (h2.below SrC.kept hB)
  have H3 := hid (h3.below XrC.kept hB)
  have H4 := hid (h4.below TrC.kept hB)
  obtain ⟨a1, c1, a2, c2, a3, c3, a4, c4, d1, d2, d3, d4, k1, k2, k3, k4, hg⟩ := HF.out.look
  obtain ⟨-, n1, n2⟩ := sl_bounds k1
  obtain ⟨-, n3, n4⟩ := sl_bounds k2
  obtain ⟨-, n5, n6⟩ := sl_bounds k3
  obtain ⟨-, n7, n8⟩ := sl_bounds k4
  have K1 := hid k1
  have K2 := hid k2
  have K3 := hid k3
  have K4 := hid k4
  obtain ⟨⟨q1, q2, q3, q4⟩, qf, ql⟩ := cells4 hX
  have DD := hid (And.intro d1 (And.intro d2 (And.intro d3 d4)))
  have QQ := hid (And.intro q1 (And.intro q2 (And.intro q3 q4)))
  clear hF h1 h2 h3 h4 hB hX k1 k2 k3 k4
  go_enter Tryz.func46, Tryz.ntmps46
  go_upto_region 1 with fail
  clear hW
  refine wp_region_quiet_lit (by kernel_rfl) (by kernel_rfl) ?_
  repeat ((first | with_reducible refine wpQuiet_step (fun K hK => ?_) | refine wpQuiet_step (fun K hK => ?_)); go_simp; with_reducible refine hK _ ?_; clear hK K)
  refine wpQuiet_nil ?_
  intro _ hw'
  obtain ⟨nq, hw''⟩ := hw'
  subst hw''
  go_wp2_with fail
  go_loopw [65] (fun s wr => ∃ i : Nat, s = .int .i64 i ∧ i ≤ f.cs.length ∧ Below W.heap.size W wr) (fun s _ => f.cs.length - (intOf s).toNat)
  case atStart => exact ⟨0, rfl, Nat.zero_le _, (below_drewN _ _ _)⟩
  case round =>
    obtain ⟨i, rfl, hi, hbr⟩ := hrel
    have HBR := hid hbr
    have e1 := (hbr.cell (p := ⟨g, 1, none⟩) hg).trans DD.out.1
    have e2 := (hbr.cell (p := ⟨w.heap.size, 0, none⟩) ql).trans QQ.out.1
    clear d1 d2 d3 d4 q1 q2 q3 q4
    by_cases hlt : i < f.cs.length
    · obtain ⟨y, hy⟩ : ∃ y, f.cs[i]? = some y := ⟨_, List.getElem?_eq_getElem hlt⟩
      obtain ⟨p, hpa, hp, u0, u1⟩ := cos_at (K1.out.below CoC.kept HBR.out) hy
      obtain ⟨q, hqa, hq, v0, v1⟩ := cos_at (H1.out.below CoC.kept HBR.out) hy
      subst hpa hqa
      have hI : (i : Int) < (f.cs.length : Int) := by omega
      have HL := hid hlt
      clear hbr
      go_wp2_with fail
      go_quiet (fail)
      go_wp2_with fail
      go_roundw
      case rel => exact ⟨i + 1, by go_num, by have := HL.out; omega, HBR.out.trans (below_drewN _ _ _)⟩
      case measure => have := HL.out; simp [intOf]; omega
    · obtain rfl : i = f.cs.length := by omega
      have e3 := (hbr.cell (p := ⟨g, 3, none⟩) hg).trans DD.out.2.2.1
      clear hbr
      go_wp2_with fail
      go_loopw [87] (fun s wr => ∃ i : Nat, s = .int .i64 i ∧ i ≤ f.g.xs.length ∧ Below W.heap.size W wr) (fun s _ => f.g.xs.length - (intOf s).toNat)
      case atStart => exact ⟨0, rfl, Nat.zero_le _, HBR.out⟩
      case round =>
        obtain ⟨i, rfl, hi, hbr⟩ := hrel
        rename World => wr
        have HBR2 := hid hbr
        have e1 := (hbr.cell (p := ⟨g, 3, none⟩) hg).trans DD.out.2.2.1
        clear e2 e3
        by_cases hlt : i < f.g.xs.length
        · as_aux_lemma =>
            obtain ⟨x, hx⟩ : ∃ x, f.g.xs[i]? = some x := ⟨_, List.getElem?_eq_getElem hlt⟩
            obtain ⟨p, kv, hpa, hp, u0, u1, u2, u3, u4, hk⟩ := xs_at (K3.out.below XrC.kept hbr) hx
            obtain ⟨q, lv, hqa, hq, v0, v1, v2, v3, v4, hl⟩ := xs_at (H3.out.below XrC.kept hbr) hx
            obtain ⟨ka, kc, rfl, -⟩ := hk.shape
            obtain ⟨la, lc, rfl, -⟩ := hl.shape
            subst hpa hqa
            have hI : (i : Int) < (f.g.xs.length : Int) := by omega
            have HL := hid hlt
            have hb7 : Below wr.heap.size wr (wr.alloc (.cells #[.int .i64 (x.k : Int), .string (bs x.op), .int .u64 (x.n : Int), .string (bs x.s), .slice ka x.kids.length kc] 87)) := (Below.refl _ _).alloc (Nat.le_refl _) _
            have hx7 := heap_alloc_new wr (.cells #[.int .i64 (x.k : Int), .string (bs x.op), .int .u64 (x.n : Int), .string (bs x.s), .slice ka x.kids.length kc] 87)
            have hz7 : (wr.alloc (.cells #[.int .i64 (x.k : Int), .string (bs x.op), .int .u64 (x.n : Int), .string (bs x.s), .slice ka x.kids.length kc] 87)).heap.size = wr.heap.size + 1 := by simp
            obtain ⟨W7, hW7⟩ : ∃ W7, wr.alloc (.cells #[.int .i64 (x.k : Int), .string (bs x.op), .int .u64 (x.n : Int), .string (bs x.s), .slice ka x.kids.length kc] 87) = W7 := ⟨_, rfl⟩
            rw [hW7] at hb7 hx7 hz7
            have hb8 : Below W7.heap.size W7 (W7.alloc (.cells #[.int .i64 (x.k : Int), .string (bs x.op), .int .u64 (x.n : Int), .string (bs x.s), .slice la x.kids.length lc] 164)) := (Below.refl _ _).alloc (Nat.le_refl _) _
            have hx8 := heap_alloc_new W7 (.cells #[.int .i64 (x.k : Int), .string (bs x.op), .int .u64 (x.n : Int), .string (bs x.s), .slice la x.kids.length lc] 164)
            obtain ⟨W8, hW8⟩ : ∃ W8, W7.alloc (.cells #[.int .i64 (x.k : Int), .string (bs x.op), .int .u64 (x.n : Int), .string (bs x.s), .slice la x.kids.length lc] 164) = W8 := ⟨_, rfl⟩
            rw [hW8] at hb8 hx8
            have hx7' := (hb8.block wr.heap.size (by omega)).trans hx7
            have hb78 : Below wr.heap.size wr W8 := hb7.trans (hb8.mono hb7.size)
            have y1 := (hb7.cell (p := ⟨w.heap.size, 2, none⟩) (Nat.lt_of_lt_of_le ql hbr.size)).trans ((hbr.cell (p := ⟨w.heap.size, 2, none⟩) ql).trans QQ.out.2.2.1)
            have v0 := (hb7.cell (p := ⟨q, i * 5, none⟩) hq).trans v0
            have v1 := (hb7.cell (p := ⟨q, i * 5 + 1, none⟩) hq).trans v1
            have v2 := (hb7.cell (p := ⟨q, i * 5 + 2, none⟩) hq).trans v2
            have v3 := (hb7.cell (p := ⟨q, i * 5 + 3, none⟩) hq).trans v3
            have v4 := (hb7.cell (p := ⟨q, i * 5 + 4, none⟩) hq).trans v4
            rw [hz7] at hx8
            obtain ⟨⟨g0, g1, g2, g3, g4⟩, gf, gl⟩ := cells5 hx7'
            obtain ⟨⟨h0, h1, h2, h3, h4⟩, hf, hl8⟩ := cells5 hx8
            have CI := hid (ints_same x.kids ka la kc lc W8 (hk.below IntC.kept hb78) (hl.below IntC.kept hb78))
            have HB8 := hid (hbr.trans (hb78.mono hbr.size))
            clear hbr hb7 hb8 hx7 hx8 hx7' hb78 hk hl
            go_wp2_with (go_at_call 93; refine CI.out.mono ?_; rintro e w9 ⟨rfl, hb9⟩; have HB9 := hid (chain HB8.out (Nat.le_refl _) (hb9.mono (by have := HB8.out.size; omega))); clear hb9)
            go_roundw
            case rel => exact ⟨i + 1, by go_num, by have := HL.out; omega, HB9.out⟩
            case measure => have := HL.out; simp [intOf]; omega
        · obtain rfl : i = f.g.xs.length := by omega
          have e3 := (hbr.cell (p := ⟨g, 4, none⟩) hg).trans DD.out.2.2.2
          clear hbr
          go_wp2_with fail
          go_loopw [137] (fun s wr => ∃ i : Nat, s = .int .i64 i ∧ i ≤ f.g.ts.length ∧ Below W.heap.size W wr) (fun s _ => f.g.ts.length - (intOf s).toNat)
          case atStart => exact ⟨0, rfl, Nat.zero_le _, HBR2.out⟩
          case round =>
            obtain ⟨i, rfl, hi, hbr⟩ := hrel
            rename World => wr
            have HBR3 := hid hbr
            have j4 := (hbr.cell (p := ⟨g, 4, none⟩) hg).trans DD.out.2.2.2
            have j5 := (hbr.cell (p := ⟨w.heap.size, 3, none⟩) ql).trans QQ.out.2.2.2
            clear e1 e3
            by_cases hlt : i < f.g.ts.length
            · as_aux_lemma =>
                obtain ⟨x, hx⟩ : ∃ x, f.g.ts[i]? = some x := ⟨_, List.getElem?_eq_getElem hlt⟩
                obtain ⟨p, av, cv, hpa, hp, u0, u1, u2, u3, u4, u5, u6, u7, hi1, hc1⟩ := ts_at (K4.out.below TrC.kept hbr) hx
                obtain ⟨q, bv, dv, hqa, hq, v0, v1, v2, v3, v4, v5, v6, v7, hi2, hc2⟩ := ts_at (H4.out.below TrC.kept hbr) hx
                obtain ⟨ka, kc, rfl, -⟩ := hi1.shape
                obtain ⟨la, lc, rfl, -⟩ := hi2.shape
                obtain ⟨ma, mc, rfl, -⟩ := hc1.shape
                obtain ⟨na, nc, rfl, -⟩ := hc2.shape
                subst hpa hqa
                have hI : (i : Int) < (f.g.ts.length : Int) := by omega
                have HL := hid hlt
                have CT := hid fun (wz : World) (hz : Below wr.heap.size wr wz) => type_same x ka ma la na kc mc lc nc wz (hi1.below IntC.kept hz) (hi2.below IntC.kept hz) (hc1.below CaC.kept hz) (hc2.below CaC.kept hz)
                clear hbr hi1 hi2 hc1 hc2
                go_wp2_with fail
                go_still_tail 12, (by kernel_rfl)
                change wpList _ _ _ _ _ wr.drew
                go_wp2_with (go_at_call 94; refine (CT.out _ (Below.refl _ _).drew).mono ?_; rintro e w9 ⟨rfl, hb9⟩; have HB9 := hid (HBR3.out.trans (((Below.refl wr.heap.size wr).drew.trans hb9).mono HBR3.out.size)); clear hb9)
                go_roundw
                case rel => exact ⟨i + 1, by go_num, by have := HL.out; omega, HB9.out⟩
                case measure => have := HL.out; simp [intOf]; omega
            · obtain rfl : i = f.g.ts.length := by omega
              have e3 := (hbr.cell (p := ⟨g, 2, none⟩) hg).trans DD.out.2.1
              clear hbr
              go_wp2_with fail
              go_loopw [160] (fun s wr => ∃ i : Nat, s = .int .i64 i ∧ i ≤ f.ss.length ∧ Below W.heap.size W wr) (fun s _ => f.ss.length - (intOf s).toNat)
              case atStart => exact ⟨0, rfl, Nat.zero_le _, HBR3.out⟩
              case round =>
                obtain ⟨i, rfl, hi, hbr⟩ := hrel
                rename World => wr
                have HBR4 := hid hbr
                clear j4 j5 e3
                by_cases hlt : i < f.ss.length
                · as_aux_lemma =>
                    obtain ⟨x, hx⟩ : ∃ x, f.ss[i]? = some x := ⟨_, List.getElem?_eq_getElem hlt⟩
                    obtain ⟨p, av, cv, hpa, hp, u0, u1, u2, hi1, hc1⟩ := ss_at (K2.out.below SrC.kept hbr) hx
                    obtain ⟨q, bv, dv, hqa, hq, v0, v1, v2, hi2, hc2⟩ := ss_at (H2.out.below SrC.kept hbr) hx
                    obtain ⟨ka, kc, rfl, -⟩ := hi1.shape
                    obtain ⟨la, lc, rfl, -⟩ := hi2.shape
                    obtain ⟨ma, mc, rfl, -⟩ := hc1.shape
                    obtain ⟨na, nc, rfl, -⟩ := hc2.shape
                    obtain ⟨-, o1, o2⟩ := sl_bounds hc1
                    obtain ⟨-, o3, o4⟩ := sl_bounds hc2
                    subst hpa hqa
                    have hI : (i : Int) < (f.ss.length : Int) := by omega
                    have HL := hid hlt
                    have hb7 : Below wr.heap.size wr (wr.alloc (.cells #[.string (bs x.s), .slice ka x.ps.length kc, .slice ma x.is.length mc] 55)) := (Below.refl _ _).alloc (Nat.le_refl _) _
                    have hx7 := heap_alloc_new wr (.cells #[.string (bs x.s), .slice ka x.ps.length kc, .slice ma x.is.length mc] 55)
                    have hz7 : (wr.alloc (.cells #[.string (bs x.s), .slice ka x.ps.length kc, .slice ma x.is.length mc] 55)).heap.size = wr.heap.size + 1 := by simp
                    obtain ⟨W7, hW7⟩ : ∃ W7, wr.alloc (.cells #[.string (bs x.s), .slice ka x.ps.length kc, .slice ma x.is.length mc] 55) = W7 := ⟨_, rfl⟩
                    rw [hW7] at hb7 hx7 hz7
                    have hb8 : Below W7.heap.size W7 (W7.alloc (.cells #[.string (bs x.s), .slice la x.ps.length lc, .slice na x.is.length nc] 58)) := (Below.refl _ _).alloc (Nat.le_refl _) _
                    have hx8 := heap_alloc_new W7 (.cells #[.string (bs x.s), .slice la x.ps.length lc, .slice na x.is.length nc] 58)
                    obtain ⟨W8, hW8⟩ : ∃ W8, W7.alloc (.cells #[.string (bs x.s), .slice la x.ps.length lc, .slice na x.is.length nc] 58) = W8 := ⟨_, rfl⟩
                    rw [hW8] at hb8 hx8
                    have hx7' := (hb8.block wr.heap.size (by omega)).trans hx7
                    have hb78 : Below wr.heap.size wr W8 := hb7.trans (hb8.mono hb7.size)
                    have y1 := (hb7.cell (p := ⟨w.heap.size, 1, none⟩) (Nat.lt_of_lt_of_le ql hbr.size)).trans ((hbr.cell (p := ⟨w.heap.size, 1, none⟩) ql).trans QQ.out.2.1)
                    have v0 := (hb7.cell (p := ⟨q, i * 3, none⟩) hq).trans v0
                    have v1 := (hb7.cell (p := ⟨q, i * 3 + 1, none⟩) hq).trans v1
                    have v2 := (hb7.cell (p := ⟨q, i * 3 + 2, none⟩) hq).trans v2
                    rw [hz7] at hx8
                    obtain ⟨⟨g0, g1, g2⟩, gf, gl⟩ := cells3 hx7'
                    obtain ⟨⟨h0, h1, h2⟩, hf, hl8⟩ := cells3 hx8
                    have HX7 := hid hx7'
                    have HX8 := hid hx8
                    have CI := hid (words_same x.ps ka la kc lc W8 (hi1.below StrC.kept hb78) (hi2.below StrC.kept hb78))
                    have HB8 := hid (hbr.trans (hb78.mono hbr.size))
                    have HC1 := hid (hc1.below IrC.kept hb78)
                    have HC2 := hid (hc2.below IrC.kept hb78)
                    clear hbr hb7 hb8 hx7 hx8 hx7' hb78 hi1 hi2 hc1 hc2
                    go_wp2_with (go_at_call 95; refine CI.out.mono ?_; rintro e w9 ⟨rfl, hb9⟩; have HB9 := hid hb9; have r7 := (hb9.block _ gl).trans HX7.out; have r8 := (hb9.block _ hl8).trans HX8.out; clear hb9 g0 g1 g2 gf gl h0 h1 h2 hf hl8; obtain ⟨⟨g0, g1, g2⟩, gf, gl⟩ := cells3 r7; obtain ⟨⟨h0, h1, h2⟩, hf, hl8⟩ := cells3 r8; have R7 := hid r7; have R8 := hid r8; clear r7 r8)
                    go_loopw [195] (fun s wq => ∃ j : Nat, s = .int .i64 j ∧ j ≤ x.is.length ∧ Below w9.heap.size w9 wq) (fun s _ => x.is.length - (intOf s).toNat)
                    case atStart => exact ⟨0, rfl, Nat.zero_le _, Below.refl _ _⟩
                    case round =>
                      obtain ⟨j, rfl, hj, hbq⟩ := hrel
                      rename World => wq
                      have HBQ := hid hbq
                      have hb89 := HB9.out.trans (hbq.mono HB9.out.size)
                      have r7 := (hbq.block _ gl).trans R7.out
                      have r8 := (hbq.block _ hl8).trans R8.out
                      clear g0 g1 g2 gf gl h0 h1 h2 hf hl8 y1 v0 v1 v2 u0 u1 u2
                      obtain ⟨⟨g0, g1, g2⟩, gf, gl⟩ := cells3 r7
                      obtain ⟨⟨h0, h1, h2⟩, hf, hl8⟩ := cells3 r8
                      clear r7 r8
                      by_cases hjt : j < x.is.length
                      · obtain ⟨y, hy⟩ : ∃ y, x.is[j]? = some y := ⟨_, List.getElem?_eq_getElem hjt⟩
                        obtain ⟨p', sv, hpa, hp', t0, t1, t2, t3, t4, t5, t6, t7, t8, hs1⟩ := is_at (HC1.out.below IrC.kept hb89) hy
                        obtain ⟨q', zv, hqa, hq', z0, z1, z2, z3, z4, z5, z6, z7, z8, hs2⟩ := is_at (HC2.out.below IrC.kept hb89) hy
                        obtain ⟨sa, sc, rfl, -⟩ := hs1.shape
                        obtain ⟨za, zc, rfl, -⟩ := hs2.shape
                        subst hpa hqa
                        have hJ : (j : Int) < (x.is.length : Int) := by omega
                        have HJ := hid hjt
                        have CT := hid fun (wz : World) (hz : Below wq.heap.size wq wz) => item_same y sa za sc zc wz (hs1.below SuC.kept hz) (hs2.below SuC.kept hz)
                        clear hbq hb89 hs1 hs2
                        go_wp2_with fail
                        go_still_tail 10, (by kernel_rfl)
                        change wpList _ _ _ _ _ wq.drew
                        go_wp2_with (go_at_call 96; refine (CT.out _ (Below.refl _ _).drew).mono ?_; rintro e w10 ⟨rfl, hb10⟩; have HBX := hid (HBQ.out.trans (((Below.refl wq.heap.size wq).drew.trans hb10).mono HBQ.out.size)); clear hb10)
                        go_roundw
                        case rel => exact ⟨j + 1, by go_num, by have := HJ.out; omega, HBX.out⟩
                        case measure => have := HJ.out; simp [intOf]; omega
                      · obtain rfl : j = x.is.length := by omega
                        have HEND := hid (HB8.out.trans (hb89.mono HB8.out.size))
                        clear hbq hb89
                        go_wp2_with fail
                        go_roundw
                        case rel => exact ⟨i + 1, by go_num, by have := HL.out; omega, HEND.out⟩
                        case measure => have := HL.out; simp [intOf]; omega
                · obtain rfl : i = f.ss.length := by omega
                  clear hbr
                  go_wp2_with fail
                  go_ret
                  exact ⟨rfl, HB.out.trans (HBR4.out.mono HB.out.size)⟩
end Go.Proofs.YthcdohggffpopaaGreatDoor
namespace Go.Proofs.YthcdohggffpopaaGreatDoor
open Go.Lib (hid)
open Go.ChangeShapes Go.WideShapes Go.ChangeAt Go.RowKit
theorem wake_look {g : Nat} {w : World} (h : FileR g w wakeF) : ∃ a1 c1 ks c2 kx c3 kt c4 a5 c5, w.cell? ⟨g, 1, none⟩ = some (.slice a1 0 c1) ∧ w.cell? ⟨g, 2, none⟩ = some (.slice (some ⟨ks, 0, none⟩) 1 c2) ∧ w.cell? ⟨g, 3, none⟩ = some (.slice (some ⟨kx, 0, none⟩) 3 c3) ∧ w.cell? ⟨g, 4, none⟩ = some (.slice (some ⟨kt, 0, none⟩) 2 c4) ∧
    w.cell? ⟨kx, 11, none⟩ = some (.string ⟨#[43]⟩) ∧ w.cell? ⟨kt, 8, none⟩ = some (.int .i64 1) ∧ w.cell? ⟨kt, 13, none⟩ = some (.int .i64 2) ∧ w.cell? ⟨ks, 2, none⟩ = some (.slice a5 2 c5) := by
  obtain ⟨ac, cc, bs', cs, ax, cx, at', ct, e1, e2, e3, e4, h1, h2, h3, h4, -⟩ := h.look
  obtain ⟨kx, kv, rfl, -, -, x1, -⟩ := xs_at h3 (i := 2) (x := ⟨3, [43], 0, [], [0, 1]⟩) rfl
  obtain ⟨kt, av, cv, rfl, -, t0, -, -, -, -, t5, -⟩ := ts_at h4 (i := 1) (x := ⟨1, 0, false, [], [], 2, -1, []⟩) rfl
  obtain ⟨ks, pv, iv, rfl, -, -, -, s2, -, hi⟩ := ss_at h2 (i := 0) (x := ⟨[83], [], [⟨[110], 0, 0, [], [], -1, 0, false, []⟩, ⟨[98], 1, 0, [], [], -1, 0, false, []⟩]⟩) rfl
  obtain ⟨a5, c5, rfl, -⟩ := hi.shape
  exact ⟨ac, cc, ks, cs, kx, cx, kt, ct, a5, c5, e1, e2, e3, e4, x1, t0, t5, s2⟩
set_option maxHeartbeats 4000000 in
set_option maxRecDepth 100000 in
theorem wakes_any (w : World) (hE : Env w) (hK : KEnv (fun b => b < w.heap.size) w) :
    Calls Tryz.prog 45 #[] w fun e w' => e = .returned (.bool true) ∧ Below w.heap.size w w' := by
  have cp : Calls Tryz.prog 14 #[.string ⟨wakeT.toArray⟩] w fun e w' => ParsePost (.ok wakeF) e w' ∧ Below w.heap.size w w' := by
    have := Parse_any ⟨wakeT.toArray⟩ w hE hK
    rw [show parseL (ByteArray.mk wakeT.toArray).data.toList = .ok wakeF from wakeL] at this
    exact this
  have CP := hid cp
  have CL := hid (show ∀ w, Calls Tryz.prog 92 #[.string ⟨#[43]⟩] w (fun e w' => e = .returned (.int .i64 7) ∧ w = w') from fun w => Level_any [43] w)
  have CK := hid (show ∀ w, KEnv (fun b => b < w.heap.size) w → Calls Tryz.prog 28 #[.string ⟨#[117, 56]⟩] w (fun e w' => e = .returned (.bool true) ∧ w = w') from fun w h => Keyword_any [117, 56] w h)
  have HK := hid hK
  clear cp hE hK
  go_enter Tryz.func45, Tryz.ntmps45
  go_wp2_with (first | (go_at_call 14; refine CP.out.mono ?_; rintro e w1 ⟨⟨⟨g, rfl, hF⟩, -⟩, hb⟩; obtain ⟨a1, c1, ks, c2, kx, c3, kt, c4, a5, c5, q1, q2, q3, q4, q5, q6, q7, q8⟩ := wake_look (hF.below (below_box w1 (.cells #[.int .i64 0, .int .i64 0] 24))); have B := hid (chain hb (Nat.le_refl _) (below_box w1 (.cells #[.int .i64 0, .int .i64 0] 24))); have K2 := hid (HK.out.low B.out); clear hF hb) | (go_at_call 92; refine (CL.out _).mono ?_; rintro e w2 ⟨rfl, rfl⟩) | (go_at_call 28; refine (CK.out _ K2.out).mono ?_; rintro e w2 ⟨rfl, rfl⟩))
  go_ret
  exact ⟨rfl, B.out⟩
end Go.Proofs.YthcdohggffpopaaGreatDoor
namespace Go.Proofs.YthcdohggffpopaaGreatDoor
open Go.Lib (hid)
open Go.ChangeShapes Go.WideShapes Go.ChangeAt Go.RowKit
theorem cells2Q {T : TypeId} {w : World} {k : Nat} {v0 v1 : Value} (h : w.heap[k]? = some (.cells #[v0, v1] T (0, 0))) : w.cell? ⟨k, 0, none⟩ = some v0 ∧ w.cell? ⟨k, 1, none⟩ = some v1 := ⟨(cells2P h).1, (cells2P h).2.1⟩
set_option maxHeartbeats 4000000 in
set_option maxRecDepth 100000 in
theorem ParseReads_walk (s : ByteArray) (w : World) (ws : s.size ≤ maxLen) (hE : Env w) (hK : KEnv (fun b => b < w.heap.size) w) :
    Calls Tryz.prog 13 #[.string s] w fun e w' => e = .returned (.bool true) ∧ Below w.heap.size w w' := by
  have HW := hid fun w' (hb : Below w.heap.size w w') => wakes_any w' (hE.below hb) (hK.low hb)
  have CP := hid (Parse_any s w hE hK)
  have CD := hid fun w' => dparse_any s w'
  have HNE : Hid (∀ p x, parseL s.data.toList = .bad p x → x ≠ 0) := hid fun p x h => by
    unfold parseL at h
    cases hl : lexL s.data.toList with
    | bad q e =>
      rw [hl] at h
      cases h
      exact (lexL_bad_at hl).2
    | ok ts =>
      rw [hl] at h
      dsimp only at h
      cases hf : fileP ts with
      | ok a l => rw [hf] at h; cases h
      | bad l e =>
        rw [hf] at h
        have hg := good_fileL (fuel ts) [] [] ts (lexL_wf hl)
        rw [show fileL (fuel ts) [] [] ts = .bad l e from hf] at hg
        cases h
        exact hg.2.2
  generalize parseL s.data.toList = r at CP CD HNE
  clear hE hK ws
  go_enter Tryz.func13, Tryz.ntmps13
  go_wp2_with fail
  refine CP.out.mono ?_
  rintro e w1 ⟨hp, hb1⟩
  clear CP
  cases r with
  | bad p x =>
    obtain ⟨p1, p2⟩ := p
    have hx := HNE.out _ _ rfl
    obtain ⟨rfl, -⟩ := hp
    have hxI : ((x : Int) != 0) = true := by simp; omega
    have hxJ : ((x : Int) == 0) = false := by simp; omega
    have hB1 := below_box w1 (.cells #[.int .i64 (p1 : Nat), .int .i64 (p2 : Nat)] 24)
    have HX := hid (heap_alloc_new w1 (.cells #[.int .i64 (p1 : Nat), .int .i64 (p2 : Nat)] 24))
    have HB1 := hid (hb1.trans (hB1.mono hb1.size))
    have hs1 : (w1.alloc (.cells #[.int .i64 (p1 : Nat), .int .i64 (p2 : Nat)] 24)).heap.size = w1.heap.size + 1 := by simp
    clear hb1 hB1 HNE hx
    go_wp2_with fail
    generalize w1.alloc (.cells #[.int .i64 (p1 : Nat), .int .i64 (p2 : Nat)] 24) = W1 at HX HB1 hs1 ⊢
    refine (CD.out W1).mono ?_
    rintro e w2 ⟨hd, hb2⟩
    obtain rfl := hd
    have HX2 := hid ((hb2.block w1.heap.size (by omega)).trans HX.out)
    have hW : Below w2.heap.size w2 ((w2.alloc (.cells #[.slice none 0 0, .slice none 0 0, .slice none 0 0, .slice none 0 0] 33)).alloc (.cells #[.int .i64 (p1 : Nat), .int .i64 (p2 : Nat)] 34)) := (below_box _ _).alloc (by simp) _
    have hs2 : (w2.alloc (.cells #[.slice none 0 0, .slice none 0 0, .slice none 0 0, .slice none 0 0] 33)).heap.size = w2.heap.size + 1 := by simp
    have hs3 : ((w2.alloc (.cells #[.slice none 0 0, .slice none 0 0, .slice none 0 0, .slice none 0 0] 33)).alloc (.cells #[.int .i64 (p1 : Nat), .int .i64 (p2 : Nat)] 34)).heap.size = w2.heap.size + 2 := by simp
    have hF := heap_alloc_new w2 (.cells #[.slice none 0 0, .slice none 0 0, .slice none 0 0, .slice none 0 0] 33)
    have hF : ((w2.alloc (.cells #[.slice none 0 0, .slice none 0 0, .slice none 0 0, .slice none 0 0] 33)).alloc (.cells #[.int .i64 (p1 : Nat), .int .i64 (p2 : Nat)] 34)).heap[w2.heap.size]? = some (.cells #[.slice none 0 0, .slice none 0 0, .slice none 0 0, .slice none 0 0] 33 (0, 0)) := by rw [Below.heap_alloc _ _ _ (by omega)]; exact hF
    have hA := heap_alloc_new (w2.alloc (.cells #[.slice none 0 0, .slice none 0 0, .slice none 0 0, .slice none 0 0] 33)) (.cells #[.int .i64 (p1 : Nat), .int .i64 (p2 : Nat)] 34)
    rw [hs2] at hA
    have HX3 := hid ((hW.block w1.heap.size (by have := hb2.size; omega)).trans HX2.out)
    have HB3 := hid (HB1.out.trans ((hb2.trans (hW.mono hb2.size)).mono HB1.out.size))
    have HF := hid hF
    have HA := hid hA
    have hz1 : w1.heap.size < ((w2.alloc (.cells #[.slice none 0 0, .slice none 0 0, .slice none 0 0, .slice none 0 0] 33)).alloc (.cells #[.int .i64 (p1 : Nat), .int .i64 (p2 : Nat)] 34)).heap.size := by have := hb2.size; rw [hs3]; omega
    have HZ := hid (show w1.heap.size < ((w2.alloc (.cells #[.slice none 0 0, .slice none 0 0, .slice none 0 0, .slice none 0 0] 33)).alloc (.cells #[.int .i64 (p1 : Nat), .int .i64 (p2 : Nat)] 34)).heap.size ∧ w2.heap.size < ((w2.alloc (.cells #[.slice none 0 0, .slice none 0 0, .slice none 0 0, .slice none 0 0] 33)).alloc (.cells #[.int .i64 (p1 : Nat), .int .i64 (p2 : Nat)] 34)).heap.size ∧ w2.heap.size + 1 < ((w2.alloc (.cells #[.slice none 0 0, .slice none 0 0, .slice none 0 0, .slice none 0 0] 33)).alloc (.cells #[.int .i64 (p1 : Nat), .int .i64 (p2 : Nat)] 34)).heap.size from ⟨hz1, by rw [hs3]; omega, by rw [hs3]; omega⟩)
    have HW3 := hid (HW.out _ HB3.out)
    clear hs2 hs3 hF hA hz1 HX2 HX hb2 HB1 hs1
    go_wp2_with fail
    generalize ((w2.alloc (.cells #[.slice none 0 0, .slice none 0 0, .slice none 0 0, .slice none 0 0] 33)).alloc (.cells #[.int .i64 (p1 : Nat), .int .i64 (p2 : Nat)] 34)) = W3 at HX3 HB3 HF HA HZ HW3 hW ⊢
    refine HW3.out.mono ?_
    rintro e w4 ⟨rfl, hb4⟩
    obtain ⟨x0, x1⟩ := cells2Q ((hb4.block _ HZ.out.1).trans HX3.out)
    obtain ⟨y0, y1⟩ := cells2Q ((hb4.block _ HZ.out.2.2).trans HA.out)
    have HB4 := hid (HB3.out.trans (hb4.mono HB3.out.size))
    clear hW hb4 HW3 HX3 HF HA HZ
    go_wp2_with fail
    go_ret
    exact ⟨rfl, HB4.out⟩
  | ok f =>
    obtain ⟨⟨g, rfl, hG⟩, -⟩ := hp
    have hB1 := below_box w1 (.cells #[.int .i64 0, .int .i64 0] 24)
    have HX := hid (heap_alloc_new w1 (.cells #[.int .i64 0, .int .i64 0] 24))
    have HB1 := hid (hb1.trans (hB1.mono hb1.size))
    have HG1 := hid (hG.below hB1)
    have hs1 : (w1.alloc (.cells #[.int .i64 0, .int .i64 0] 24)).heap.size = w1.heap.size + 1 := by simp
    clear hb1 hB1 HNE hG
    go_wp2_with fail
    generalize w1.alloc (.cells #[.int .i64 0, .int .i64 0] 24) = W1 at HX HB1 HG1 hs1 ⊢
    refine (CD.out W1).mono ?_
    rintro e w2 ⟨⟨a1, c1, a2, c2, a3, c3, a4, c4, rfl, s1, s2, s3, s4⟩, hb2⟩
    have HX2 := hid ((hb2.block w1.heap.size (by omega)).trans HX.out)
    have hW : Below w2.heap.size w2 ((w2.alloc (.cells #[.slice a1 f.cs.length c1, .slice a2 f.ss.length c2, .slice a3 f.g.xs.length c3, .slice a4 f.g.ts.length c4] 33)).alloc (.cells #[.int .i64 0, .int .i64 0] 34)) := (below_box _ _).alloc (by simp) _
    have hs2 : (w2.alloc (.cells #[.slice a1 f.cs.length c1, .slice a2 f.ss.length c2, .slice a3 f.g.xs.length c3, .slice a4 f.g.ts.length c4] 33)).heap.size = w2.heap.size + 1 := by simp
    have hs3 : ((w2.alloc (.cells #[.slice a1 f.cs.length c1, .slice a2 f.ss.length c2, .slice a3 f.g.xs.length c3, .slice a4 f.g.ts.length c4] 33)).alloc (.cells #[.int .i64 0, .int .i64 0] 34)).heap.size = w2.heap.size + 2 := by simp
    have hF := heap_alloc_new w2 (.cells #[.slice a1 f.cs.length c1, .slice a2 f.ss.length c2, .slice a3 f.g.xs.length c3, .slice a4 f.g.ts.length c4] 33)
    have hF : ((w2.alloc (.cells #[.slice a1 f.cs.length c1, .slice a2 f.ss.length c2, .slice a3 f.g.xs.length c3, .slice a4 f.g.ts.length c4] 33)).alloc (.cells #[.int .i64 0, .int .i64 0] 34)).heap[w2.heap.size]? = some (.cells #[.slice a1 f.cs.length c1, .slice a2 f.ss.length c2, .slice a3 f.g.xs.length c3, .slice a4 f.g.ts.length c4] 33 (0, 0)) := by rw [Below.heap_alloc _ _ _ (by omega)]; exact hF
    have hA := heap_alloc_new (w2.alloc (.cells #[.slice a1 f.cs.length c1, .slice a2 f.ss.length c2, .slice a3 f.g.xs.length c3, .slice a4 f.g.ts.length c4] 33)) (.cells #[.int .i64 0, .int .i64 0] 34)
    rw [hs2] at hA
    have HX3 := hid ((hW.block w1.heap.size (by have := hb2.size; omega)).trans HX2.out)
    have HB3 := hid (HB1.out.trans ((hb2.trans (hW.mono hb2.size)).mono HB1.out.size))
    have HF := hid hF
    have HA := hid hA
    have hz1 : w1.heap.size < ((w2.alloc (.cells #[.slice a1 f.cs.length c1, .slice a2 f.ss.length c2, .slice a3 f.g.xs.length c3, .slice a4 f.g.ts.length c4] 33)).alloc (.cells #[.int .i64 0, .int .i64 0] 34)).heap.size := by have := hb2.size; rw [hs3]; omega
    have HZ := hid (show w1.heap.size < ((w2.alloc (.cells #[.slice a1 f.cs.length c1, .slice a2 f.ss.length c2, .slice a3 f.g.xs.length c3, .slice a4 f.g.ts.length c4] 33)).alloc (.cells #[.int .i64 0, .int .i64 0] 34)).heap.size ∧ w2.heap.size < ((w2.alloc (.cells #[.slice a1 f.cs.length c1, .slice a2 f.ss.length c2, .slice a3 f.g.xs.length c3, .slice a4 f.g.ts.length c4] 33)).alloc (.cells #[.int .i64 0, .int .i64 0] 34)).heap.size ∧ w2.heap.size + 1 < ((w2.alloc (.cells #[.slice a1 f.cs.length c1, .slice a2 f.ss.length c2, .slice a3 f.g.xs.length c3, .slice a4 f.g.ts.length c4] 33)).alloc (.cells #[.int .i64 0, .int .i64 0] 34)).heap.size from ⟨hz1, by rw [hs3]; omega, by rw [hs3]; omega⟩)
    have HW3 := hid (HW.out _ HB3.out)
    have HG3 := hid ((HG1.out.below hb2).below hW)
    have HS1 := hid (s1.below CoC.kept hW)
    have HS2 := hid (s2.below SrC.kept hW)
    have HS3 := hid (s3.below XrC.kept hW)
    have HS4 := hid (s4.below TrC.kept hW)
    clear hs2 hs3 hF hA hz1 HX2 HX hb2 HB1 hs1 s1 s2 s3 s4 HG1
    go_wp2_with fail
    generalize ((w2.alloc (.cells #[.slice a1 f.cs.length c1, .slice a2 f.ss.length c2, .slice a3 f.g.xs.length c3, .slice a4 f.g.ts.length c4] 33)).alloc (.cells #[.int .i64 0, .int .i64 0] 34)) = W3 at HX3 HB3 HF HA HZ HW3 hW HG3 HS1 HS2 HS3 HS4 ⊢
    refine HW3.out.mono ?_
    rintro e w4 ⟨rfl, hb4⟩
    obtain ⟨x0, x1⟩ := cells2Q ((hb4.block _ HZ.out.1).trans HX3.out)
    obtain ⟨y0, y1⟩ := cells2Q ((hb4.block _ HZ.out.2.2).trans HA.out)
    obtain ⟨⟨z0, z1, z2, z3⟩, -⟩ := cells4P ((hb4.block _ HZ.out.2.1).trans HF.out)
    have HB4 := hid (HB3.out.trans (hb4.mono HB3.out.size))
    have CS := hid (file_eq f g w4 a1 a2 a3 a4 c1 c2 c3 c4 (HG3.out.below hb4) (HS1.out.below CoC.kept hb4) (HS2.out.below SrC.kept hb4) (HS3.out.below XrC.kept hb4) (HS4.out.below TrC.kept hb4))
    clear hW hb4 HW3 HX3 HF HA HZ HG3 HS1 HS2 HS3 HS4
    go_wp2_with (go_at_call 46; (with_reducible refine CS.out.mono ?_); rintro e w5 ⟨rfl, hb5⟩; have HB5 := hid (HB4.out.trans (hb5.mono HB4.out.size)); clear hb5)
    go_ret
    exact ⟨rfl, HB5.out⟩
end Go.Proofs.YthcdohggffpopaaGreatDoor
