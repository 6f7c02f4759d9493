/- Layer 7: two lists, two types, two items of the law are found the same. -/
import Derived.Test.YthcdohggffpopaaGreatDoorC1ParRd
import Derived.Test.YthcdohggffpopaaGreatDoorC1ParPk
import Derived.BigQuiet
import Derived.Deep.QuietTactic
namespace Go.Proofs.YthcdohggffpopaaGreatDoor
open Go.Lib (hid)
open Go.ChangeShapes Go.WideShapes Go.ChangeAt Go.RowKit
theorem sl_bounds {α : Type} {size : Nat} {rep : World → List Value → α → Prop} {w : World} {a : Option Addr} {n c : Nat} {l : List α} (h : SlR size rep w (.slice a n c) l) : n = l.length ∧ l.length ≤ c ∧ c ≤ 9223372036854775807 := by
  obtain ⟨a', c', e, h1, h2⟩ := h.shape
  simp only [Value.slice.injEq] at e
  obtain ⟨rfl, rfl, rfl⟩ := e
  unfold maxLen at h2
  exact ⟨rfl, h1, by omega⟩
set_option maxHeartbeats 1000000 in
set_option maxRecDepth 100000 in
theorem ints_same (l : List Nat) (a b : Option Addr) (ca cb : Nat) (w : World) (ha : SlR 1 IntC w (.slice a l.length ca) l) (hb : SlR 1 IntC w (.slice b l.length cb) l) :
    Calls Tryz.prog 93 #[.slice a l.length ca, .slice b l.length cb] w fun e w' => e = .returned (.bool true) ∧ Below w.heap.size w w' := by
  obtain ⟨-, k1, k2⟩ := sl_bounds ha
  have HA := hid ha
  have HB := hid hb
  clear ha hb
  go_enter Tryz.func93, Tryz.ntmps93
  go_wp2_with fail
  go_loopw [13] (fun s13 wr => ∃ i : Nat, s13 = .int .i64 i ∧ i ≤ l.length ∧ Below w.heap.size w wr) (fun s13 _ => l.length - (intOf s13).toNat)
  case atStart => exact ⟨0, rfl, Nat.zero_le _, Below.refl _ _⟩
  case round =>
    obtain ⟨i, rfl, hi, hbr⟩ := hrel
    have HBR := hid hbr
    by_cases hlt : i < l.length
    · obtain ⟨x, hx⟩ : ∃ x, l[i]? = some x := ⟨_, List.getElem?_eq_getElem hlt⟩
      obtain ⟨p, hpa, hp, c0⟩ := ints_at (HA.out.below IntC.kept hbr) hx
      obtain ⟨q, hqa, hq, c1⟩ := ints_at (HB.out.below IntC.kept hbr) hx
      subst hpa hqa
      have hI : (i : Int) < (l.length : Int) := by omega
      have HL := hid hlt
      clear hbr
      go_wp2_with fail
      go_quiet (fail)
      go_wp2_with fail
      go_roundw
      case rel => exact ⟨i + 1, by go_num, by have := HL.out; omega, HBR.out.trans (below_drewN _ _ _)⟩
      case measure => have := HL.out; simp [intOf]; omega
    · obtain rfl : i = l.length := by omega
      clear hbr
      go_wp2_with fail
      go_ret
      exact ⟨rfl, HBR.out⟩
set_option maxHeartbeats 1000000 in
set_option maxRecDepth 100000 in
theorem words_same (l : List (List UInt8)) (a b : Option Addr) (ca cb : Nat) (w : World) (ha : SlR 1 StrC w (.slice a l.length ca) l) (hb : SlR 1 StrC w (.slice b l.length cb) l) :
    Calls Tryz.prog 95 #[.slice a l.length ca, .slice b l.length cb] w fun e w' => e = .returned (.bool true) ∧ Below w.heap.size w w' := by
  obtain ⟨-, k1, k2⟩ := sl_bounds ha
  have HA := hid ha
  have HB := hid hb
  clear ha hb
  go_enter Tryz.func95, Tryz.ntmps95
  go_wp2_with fail
  go_loopw [13] (fun s13 wr => ∃ i : Nat, s13 = .int .i64 i ∧ i ≤ l.length ∧ Below w.heap.size w wr) (fun s13 _ => l.length - (intOf s13).toNat)
  case atStart => exact ⟨0, rfl, Nat.zero_le _, Below.refl _ _⟩
  case round =>
    obtain ⟨i, rfl, hi, hbr⟩ := hrel
    have HBR := hid hbr
    by_cases hlt : i < l.length
    · obtain ⟨x, hx⟩ : ∃ x, l[i]? = some x := ⟨_, List.getElem?_eq_getElem hlt⟩
      obtain ⟨p, hpa, hp, c0⟩ := strs_at (HA.out.below StrC.kept hbr) hx
      obtain ⟨q, hqa, hq, c1⟩ := strs_at (HB.out.below StrC.kept hbr) hx
      subst hpa hqa
      have hI : (i : Int) < (l.length : Int) := by omega
      have HL := hid hlt
      clear hbr
      go_wp2_with fail
      go_quiet (fail)
      go_wp2_with fail
      go_roundw
      case rel => exact ⟨i + 1, by go_num, by have := HL.out; omega, HBR.out.trans (below_drewN _ _ _)⟩
      case measure => have := HL.out; simp [intOf]; omega
    · obtain rfl : i = l.length := by omega
      clear hbr
      go_wp2_with fail
      go_ret
      exact ⟨rfl, HBR.out⟩
set_option maxHeartbeats 4000000 in
set_option maxRecDepth 100000 in
theorem type_same (x : TM) (a1 a2 b1 b2 : Option Addr) (n1 n2 k1 k2 : Nat) (w : World) (hi : SlR 1 IntC w (.slice a1 x.args.length n1) x.args) (hj : SlR 1 IntC w (.slice b1 x.args.length k1) x.args) (ha : SlR 2 CaC w (.slice a2 x.cs.length n2) x.cs) (hb : SlR 2 CaC w (.slice b2 x.cs.length k2) x.cs) :
    Calls Tryz.prog 94 #[.agg #[.int .i64 (x.k : Int), .int .i64 (x.size : Int), .bool x.little, .string (bs x.s), .slice a1 x.args.length n1, .int .i64 x.e, .int .i64 x.i, .slice a2 x.cs.length n2], .agg #[.int .i64 (x.k : Int), .int .i64 (x.size : Int), .bool x.little, .string (bs x.s), .slice b1 x.args.length k1, .int .i64 x.e, .int .i64 x.i, .slice b2 x.cs.length k2]] w fun e w' => e = .returned (.bool true) ∧ Below w.heap.size w w' := by
  obtain ⟨-, m1, m2⟩ := sl_bounds ha
  have hb2 : Below w.heap.size w ((w.alloc (.cells #[.int .i64 (x.k : Int), .int .i64 (x.size : Int), .bool x.little, .string (bs x.s), .slice a1 x.args.length n1, .int .i64 x.e, .int .i64 x.i, .slice a2 x.cs.length n2] 91)).alloc (.cells #[.int .i64 (x.k : Int), .int .i64 (x.size : Int), .bool x.little, .string (bs x.s), .slice b1 x.args.length k1, .int .i64 x.e, .int .i64 x.i, .slice b2 x.cs.length k2] 149)) := below_pair _ _ _
  have hA : ((w.alloc (.cells #[.int .i64 (x.k : Int), .int .i64 (x.size : Int), .bool x.little, .string (bs x.s), .slice a1 x.args.length n1, .int .i64 x.e, .int .i64 x.i, .slice a2 x.cs.length n2] 91)).alloc (.cells #[.int .i64 (x.k : Int), .int .i64 (x.size : Int), .bool x.little, .string (bs x.s), .slice b1 x.args.length k1, .int .i64 x.e, .int .i64 x.i, .slice b2 x.cs.length k2] 149)).heap[w.heap.size]? = some (.cells #[.int .i64 (x.k : Int), .int .i64 (x.size : Int), .bool x.little, .string (bs x.s), .slice a1 x.args.length n1, .int .i64 x.e, .int .i64 x.i, .slice a2 x.cs.length n2] 91 (0, 0)) := (Below.heap_alloc _ _ _ (by simp)).trans (heap_alloc_new w _)
  have hB : ((w.alloc (.cells #[.int .i64 (x.k : Int), .int .i64 (x.size : Int), .bool x.little, .string (bs x.s), .slice a1 x.args.length n1, .int .i64 x.e, .int .i64 x.i, .slice a2 x.cs.length n2] 91)).alloc (.cells #[.int .i64 (x.k : Int), .int .i64 (x.size : Int), .bool x.little, .string (bs x.s), .slice b1 x.args.length k1, .int .i64 x.e, .int .i64 x.i, .slice b2 x.cs.length k2] 149)).heap[w.heap.size + 1]? = some (.cells #[.int .i64 (x.k : Int), .int .i64 (x.size : Int), .bool x.little, .string (bs x.s), .slice b1 x.args.length k1, .int .i64 x.e, .int .i64 x.i, .slice b2 x.cs.length k2] 149 (0, 0)) := heap_pair w _ _
  have HA := hid ha
  have HB := hid hb
  have HB2 := hid hb2
  have CI : Hid (Calls Tryz.prog 93 #[.slice a1 x.args.length n1, .slice b1 x.args.length k1] ((w.alloc (.cells #[.int .i64 (x.k : Int), .int .i64 (x.size : Int), .bool x.little, .string (bs x.s), .slice a1 x.args.length n1, .int .i64 x.e, .int .i64 x.i, .slice a2 x.cs.length n2] 91)).alloc (.cells #[.int .i64 (x.k : Int), .int .i64 (x.size : Int), .bool x.little, .string (bs x.s), .slice b1 x.args.length k1, .int .i64 x.e, .int .i64 x.i, .slice b2 x.cs.length k2] 149)) fun e w' => e = .returned (.bool true) ∧ Below ((w.alloc (.cells #[.int .i64 (x.k : Int), .int .i64 (x.size : Int), .bool x.little, .string (bs x.s), .slice a1 x.args.length n1, .int .i64 x.e, .int .i64 x.i, .slice a2 x.cs.length n2] 91)).alloc (.cells #[.int .i64 (x.k : Int), .int .i64 (x.size : Int), .bool x.little, .string (bs x.s), .slice b1 x.args.length k1, .int .i64 x.e, .int .i64 x.i, .slice b2 x.cs.length k2] 149)).heap.size ((w.alloc (.cells #[.int .i64 (x.k : Int), .int .i64 (x.size : Int), .bool x.little, .string (bs x.s), .slice a1 x.args.length n1, .int .i64 x.e, .int .i64 x.i, .slice a2 x.cs.length n2] 91)).alloc (.cells #[.int .i64 (x.k : Int), .int .i64 (x.size : Int), .bool x.little, .string (bs x.s), .slice b1 x.args.length k1, .int .i64 x.e, .int .i64 x.i, .slice b2 x.cs.length k2] 149)) w') := hid (ints_same x.args a1 b1 n1 k1 _ (hi.below IntC.kept hb2) (hj.below IntC.kept hb2))
  obtain ⟨⟨d0, d1, d2, d3, d4, d5, d6, d7⟩, df, dl⟩ := cells8 hA
  obtain ⟨⟨e0, e1, e2, e3, e4, e5, e6, e7⟩, ef, el⟩ := cells8 hB
  have HHA := hid hA
  have HHB := hid hB
  clear ha hb hb2 hA hB hi hj
  go_enter Tryz.func94, Tryz.ntmps94
  go_wp2_with (go_at_call 93; refine CI.out.mono ?_; rintro e w3 ⟨rfl, hb3⟩; have HB3 := hid (chain HB2.out (Nat.le_refl _) (hb3.mono (by simp))); have hA3 := (hb3.block _ dl).trans HHA.out; have hB3 := (hb3.block _ el).trans HHB.out; clear d0 e0 d1 e1 d2 e2 d3 e3 d4 e4 d5 e5 d6 e6 d7 e7 df dl ef el hb3; obtain ⟨⟨d0, d1, d2, d3, d4, d5, d6, d7⟩, df, dl⟩ := cells8 hA3; obtain ⟨⟨e0, e1, e2, e3, e4, e5, e6, e7⟩, ef, el⟩ := cells8 hB3; have HA3 := hid hA3; have HBB3 := hid hB3; clear hA3 hB3)
  go_loopw [66] (fun s wr => ∃ i : Nat, s = .int .i64 i ∧ i ≤ x.cs.length ∧ Below w3.heap.size w3 wr) (fun s _ => x.cs.length - (intOf s).toNat)
  case atStart => exact ⟨0, rfl, Nat.zero_le _, Below.refl _ _⟩
  case round =>
    obtain ⟨i, rfl, hi, hbr⟩ := hrel
    have HBR := hid (HB3.out.trans (hbr.mono HB3.out.size))
    have HBW := hid hbr
    have dl' := (Array.getElem?_eq_some_iff.1 HA3.out).1
    have el' := (Array.getElem?_eq_some_iff.1 HBB3.out).1
    have hA4 := (hbr.block _ dl').trans HA3.out
    have hB4 := (hbr.block _ el').trans HBB3.out
    clear d0 e0 d1 e1 d2 e2 d3 e3 d4 e4 d5 e5 d6 e6 d7 e7 df dl ef el
    have f0 : wr.cell? ⟨w.heap.size, 7, none⟩ = some (.slice a2 x.cs.length n2) := by rw [cell_of_row _ _ _ _ _ (0, 0) hA4]; rfl
    have f1 : wr.cell? ⟨w.heap.size + 1, 7, none⟩ = some (.slice b2 x.cs.length k2) := by rw [cell_of_row _ _ _ _ _ (0, 0) hB4]; rfl
    clear hA4 hB4 dl' el'
    by_cases hlt : i < x.cs.length
    · obtain ⟨y, hy⟩ : ∃ y, x.cs[i]? = some y := ⟨_, List.getElem?_eq_getElem hlt⟩
      obtain ⟨p, hpa, hp, c0, c1⟩ := cas_at (HA.out.below CaC.kept HBR.out) hy
      obtain ⟨q, hqa, hq, g0, g1⟩ := cas_at (HB.out.below CaC.kept HBR.out) hy
      subst hpa hqa
      have hI : (i : Int) < (x.cs.length : Int) := by omega
      have HL := hid hlt
      clear hbr
      go_wp2_with fail
      go_quiet (fail)
      go_wp2_with fail
      go_roundw
      case rel => exact ⟨i + 1, by go_num, by have := HL.out; omega, HBW.out.trans (below_drewN _ _ _)⟩
      case measure => have := HL.out; simp [intOf]; omega
    · obtain rfl : i = x.cs.length := by omega
      clear hbr
      go_wp2_with fail
      go_ret
      exact ⟨rfl, HBR.out⟩
set_option maxHeartbeats 4000000 in
set_option maxRecDepth 100000 in
theorem item_same (x : IM) (a1 b1 : Option Addr) (n1 k1 : Nat) (w : World) (ha : SlR 2 SuC w (.slice a1 x.subs.length n1) x.subs) (hb : SlR 2 SuC w (.slice b1 x.subs.length k1) x.subs) :
    Calls Tryz.prog 96 #[.agg #[.string (bs x.s), .int .i64 x.t, .int .i64 (x.der : Int), .string (bs x.a), .string (bs x.b), .int .i64 x.wh, .int .i64 (x.size : Int), .bool x.little, .slice a1 x.subs.length n1], .agg #[.string (bs x.s), .int .i64 x.t, .int .i64 (x.der : Int), .string (bs x.a), .string (bs x.b), .int .i64 x.wh, .int .i64 (x.size : Int), .bool x.little, .slice b1 x.subs.length k1]] w fun e w' => e = .returned (.bool true) ∧ Below w.heap.size w w' := by
  obtain ⟨-, m1, m2⟩ := sl_bounds ha
  have hb2 : Below w.heap.size w ((w.alloc (.cells #[.string (bs x.s), .int .i64 x.t, .int .i64 (x.der : Int), .string (bs x.a), .string (bs x.b), .int .i64 x.wh, .int .i64 (x.size : Int), .bool x.little, .slice a1 x.subs.length n1] 65)).alloc (.cells #[.string (bs x.s), .int .i64 x.t, .int .i64 (x.der : Int), .string (bs x.a), .string (bs x.b), .int .i64 x.wh, .int .i64 (x.size : Int), .bool x.little, .slice b1 x.subs.length k1] 70)) := below_pair _ _ _
  have hA : ((w.alloc (.cells #[.string (bs x.s), .int .i64 x.t, .int .i64 (x.der : Int), .string (bs x.a), .string (bs x.b), .int .i64 x.wh, .int .i64 (x.size : Int), .bool x.little, .slice a1 x.subs.length n1] 65)).alloc (.cells #[.string (bs x.s), .int .i64 x.t, .int .i64 (x.der : Int), .string (bs x.a), .string (bs x.b), .int .i64 x.wh, .int .i64 (x.size : Int), .bool x.little, .slice b1 x.subs.length k1] 70)).heap[w.heap.size]? = some (.cells #[.string (bs x.s), .int .i64 x.t, .int .i64 (x.der : Int), .string (bs x.a), .string (bs x.b), .int .i64 x.wh, .int .i64 (x.size : Int), .bool x.little, .slice a1 x.subs.length n1] 65 (0, 0)) := (Below.heap_alloc _ _ _ (by simp)).trans (heap_alloc_new w _)
  have hB : ((w.alloc (.cells #[.string (bs x.s), .int .i64 x.t, .int .i64 (x.der : Int), .string (bs x.a), .string (bs x.b), .int .i64 x.wh, .int .i64 (x.size : Int), .bool x.little, .slice a1 x.subs.length n1] 65)).alloc (.cells #[.string (bs x.s), .int .i64 x.t, .int .i64 (x.der : Int), .string (bs x.a), .string (bs x.b), .int .i64 x.wh, .int .i64 (x.size : Int), .bool x.little, .slice b1 x.subs.length k1] 70)).heap[w.heap.size + 1]? = some (.cells #[.string (bs x.s), .int .i64 x.t, .int .i64 (x.der : Int), .string (bs x.a), .string (bs x.b), .int .i64 x.wh, .int .i64 (x.size : Int), .bool x.little, .slice b1 x.subs.length k1] 70 (0, 0)) := heap_pair w _ _
  have HA := hid ha
  have HB := hid hb
  have HB2 := hid hb2
  obtain ⟨⟨d0, d1, d2, d3, d4, d5, d6, d7, d8⟩, df, dl⟩ := cells9 hA
  obtain ⟨⟨e0, e1, e2, e3, e4, e5, e6, e7, e8⟩, ef, el⟩ := cells9 hB
  have HHA := hid hA
  have HHB := hid hB
  clear ha hb hb2 hA hB
  go_enter Tryz.func96, Tryz.ntmps96
  go_wp2_with fail
  obtain ⟨w3, hw3⟩ : ∃ w3, ((w.alloc (.cells #[.string (bs x.s), .int .i64 x.t, .int .i64 (x.der : Int), .string (bs x.a), .string (bs x.b), .int .i64 x.wh, .int .i64 (x.size : Int), .bool x.little, .slice a1 x.subs.length n1] 65)).alloc (.cells #[.string (bs x.s), .int .i64 x.t, .int .i64 (x.der : Int), .string (bs x.a), .string (bs x.b), .int .i64 x.wh, .int .i64 (x.size : Int), .bool x.little, .slice b1 x.subs.length k1] 70)) = w3 := ⟨_, rfl⟩
  have HB3 : Hid (Below w.heap.size w w3) := hid (hw3 ▸ HB2.out)
  have HA3 : Hid (w3.heap[w.heap.size]? = some (.cells #[.string (bs x.s), .int .i64 x.t, .int .i64 (x.der : Int), .string (bs x.a), .string (bs x.b), .int .i64 x.wh, .int .i64 (x.size : Int), .bool x.little, .slice a1 x.subs.length n1] 65 (0, 0))) := hid (hw3 ▸ HHA.out)
  have HBB3 : Hid (w3.heap[w.heap.size + 1]? = some (.cells #[.string (bs x.s), .int .i64 x.t, .int .i64 (x.der : Int), .string (bs x.a), .string (bs x.b), .int .i64 x.wh, .int .i64 (x.size : Int), .bool x.little, .slice b1 x.subs.length k1] 70 (0, 0))) := hid (hw3 ▸ HHB.out)
  rw [hw3]
  clear hw3 d0 e0 d1 e1 d2 e2 d3 e3 d4 e4 d5 e5 d6 e6 d7 e7 d8 e8 df dl ef el
  go_loopw [72] (fun s wr => ∃ i : Nat, s = .int .i64 i ∧ i ≤ x.subs.length ∧ Below w3.heap.size w3 wr) (fun s _ => x.subs.length - (intOf s).toNat)
  case atStart => exact ⟨0, rfl, Nat.zero_le _, Below.refl _ _⟩
  case round =>
    obtain ⟨i, rfl, hi, hbr⟩ := hrel
    have HBR := hid (HB3.out.trans (hbr.mono HB3.out.size))
    have HBW := hid hbr
    have dl' := (Array.getElem?_eq_some_iff.1 HA3.out).1
    have el' := (Array.getElem?_eq_some_iff.1 HBB3.out).1
    have hA4 := (hbr.block _ dl').trans HA3.out
    have hB4 := (hbr.block _ el').trans HBB3.out
    have f0 : wr.cell? ⟨w.heap.size, 8, none⟩ = some (.slice a1 x.subs.length n1) := by rw [cell_of_row _ _ _ _ _ (0, 0) hA4]; rfl
    have f1 : wr.cell? ⟨w.heap.size + 1, 8, none⟩ = some (.slice b1 x.subs.length k1) := by rw [cell_of_row _ _ _ _ _ (0, 0) hB4]; rfl
    clear hA4 hB4 dl' el'
    by_cases hlt : i < x.subs.length
    · obtain ⟨y, hy⟩ : ∃ y, x.subs[i]? = some y := ⟨_, List.getElem?_eq_getElem hlt⟩
      obtain ⟨p, hpa, hp, c0, c1⟩ := subs_at (HA.out.below SuC.kept HBR.out) hy
      obtain ⟨q, hqa, hq, g0, g1⟩ := subs_at (HB.out.below SuC.kept HBR.out) hy
      subst hpa hqa
      have hI : (i : Int) < (x.subs.length : Int) := by omega
      have HL := hid hlt
      clear hbr
      go_wp2_with fail
      go_quiet (fail)
      go_wp2_with fail
      go_roundw
      case rel => exact ⟨i + 1, by go_num, by have := HL.out; omega, HBW.out.trans (below_drewN _ _ _)⟩
      case measure => have := HL.out; simp [intOf]; omega
    · obtain rfl : i = x.subs.length := by omega
      clear hbr
      go_wp2_with fail
      go_ret
      exact ⟨rfl, HBR.out⟩
end Go.Proofs.YthcdohggffpopaaGreatDoor
