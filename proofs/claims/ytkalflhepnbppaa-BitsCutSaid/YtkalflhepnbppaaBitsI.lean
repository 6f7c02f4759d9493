/- Contracts of layer 3's laws: lists held against each other; what the document fixes; widths that go into a total. -/
import Derived.Test.YtkalflhepnbppaaBitsH
namespace Go.Proofs.Ytkalflhepnbppaa
open Go.ChangeShapes Go.WideShapes Go.ChangeAt Go.RowKit
set_option linter.unusedVariables false

theorem equal_same (a b : Option Addr) (ca cb : Nat) (l : List Int) (w : World) (hl : l.length ≤ maxLen) (ha : Rd .u64 w a l) (hb : Rd .u64 w b l) :
    Calls Try.prog 18 #[.slice a l.length ca, .slice b l.length cb] w fun e w' => e = .returned (.bool true) ∧ Below w.heap.size w w' := by
  unfold maxLen at hl
  have HA := Lib.hid ha
  have HB := Lib.hid hb
  clear ha hb
  go_enter Try.func18, Try.ntmps18
  go_wp2
  go_loopw [13] (fun i wr => ∃ k m : Nat, k ≤ l.length ∧ i = .int .i64 k ∧ wr = w.drewN m) (fun i _ => l.length - (intOf i).toNat)
  case atStart => exact ⟨0, 0, by omega, rfl, rfl⟩
  case round =>
    obtain ⟨k, m, hk, rfl, rfl⟩ := hrel
    by_cases hlt : k < l.length
    · obtain ⟨x, rfl, hx, hc⟩ := HA.out.at_ hlt
      obtain ⟨y, rfl, hy, hd⟩ := HB.out.at_ hlt
      obtain ⟨v, hv⟩ : ∃ v, Hid (el l k = v) := ⟨_, Lib.hid rfl⟩
      rw [hv.out] at hc hd
      go_wp2_with fail
      go_quiet (fail)
      go_wp2_with fail
      go_roundw
      case rel => exact ⟨k + 1, _, by omega, by go_num, rfl⟩
      case measure => simp [intOf]; omega
    · obtain rfl : k = l.length := by omega
      go_wp2
      go_ret
      exact ⟨rfl, below_drewN (Below.refl _ _) _⟩

theorem goes35 : goesB 8 [3, 5] = true := goesB_true ⟨.inl rfl, fun j hj => by
  match j, hj with
  | 0, _ => decide
  | 1, _ => decide, rfl⟩
theorem parts35 : partsL 165 [3, 5] = [5, 5] := by decide
theorem join35 : joinR [5, 5] 8 [3, 5] = (165, 0) := by
  unfold joinR
  rw [if_pos ⟨goes35, rfl⟩, if_pos]
  · decide
  · intro j hj
    unfold goesIn
    match j, hj with
    | 0, _ => decide
    | 1, _ => decide
theorem lit_rd {k : IntKind} {w : World} {t : TypeId} (l : List Int) : Rd k (w.alloc (.cells (l.map (Value.int k)).toArray t)) (some ⟨w.heap.size, 0, none⟩) l := fun j hj =>
  ⟨_, rfl, by simp, by
    rw [show (⟨w.heap.size, 0, none⟩ : Addr).add j = ⟨w.heap.size, j, none⟩ from by unfold Addr.add; split <;> simp_all, cell_of_row _ _ _ _ _ (0, 0) (heap_alloc_new w _)]
    simp [el, hj]⟩

theorem lit_rd2 {k : IntKind} {w : World} {t : TypeId} {o : Obj} (l : List Int) : Rd k ((w.alloc o).alloc (.cells (l.map (Value.int k)).toArray t)) (some ⟨w.heap.size + 1, 0, none⟩) l := by
  have h := lit_rd (k := k) (w := w.alloc o) (t := t) l
  simpa using h

theorem wakes_any (w : World) : Calls Try.prog 12 #[] w fun e w' => e = .returned (.bool true) ∧ Below w.heap.size w w' := by
  have HS := Lib.hid (fun W (h : Rd .i64 W (some ⟨w.heap.size, 0, none⟩) [3, 5]) => Split_ok 165 8 (some ⟨w.heap.size, 0, none⟩) 2 [3, 5] W h goes35 (by decide))
  go_enter Try.func12, Try.ntmps12
  go_wp2_with fail
  refine (HS.out _ (lit_rd [3, 5])).mono ?_; rintro e w1 ⟨g, rfl, hr1, hb1⟩
  rw [parts35] at hr1
  have hb1' := chain ((Below.refl w.heap.size w).alloc (Nat.le_refl _) (.cells #[.int .i64 3, .int .i64 5] 3)) (Nat.le_refl _) hb1
  have c0 := hr1.cell (j := 0) (by decide)
  have c1 := hr1.cell (j := 1) (by decide)
  go_wp2_with fail
  refine (Join_ok 8 (some ⟨w1.heap.size, 0, none⟩) (some ⟨w1.heap.size + 1, 0, none⟩) 2 2 [5, 5] [3, 5] _ ((lit_rd [5, 5]).alloc _) (lit_rd2 [3, 5]) (fun j hj => by
    match j, hj with
    | 0, _ => decide
    | 1, _ => decide) goes35 rfl).mono ?_; rintro e w2 ⟨rfl, hb2⟩
  rw [join35]
  have hb2' := chain ((hb1'.alloc hb1'.size (.cells #[.int .u64 5, .int .u64 5] 23)).alloc (by have := hb1'.size; simp; omega) (.cells #[.int .i64 3, .int .i64 5] 3)) (Nat.le_refl _) hb2
  have d0 : w2.cell? ⟨g, 0, none⟩ = some (.int .u64 5) := by
    have h := hr1.lt.2
    exact (hb2.cell (by simp; omega)).trans ((World.cell?_alloc_lt _ _ _ (by simp; omega)).trans ((World.cell?_alloc_lt _ _ _ h).trans c0))
  have d1 : w2.cell? ⟨g, 1, none⟩ = some (.int .u64 5) := by
    have h := hr1.lt.2
    exact (hb2.cell (by simp; omega)).trans ((World.cell?_alloc_lt _ _ _ (by simp; omega)).trans ((World.cell?_alloc_lt _ _ _ h).trans c1))
  clear c0 c1
  go_wp2
  go_ret
  exact ⟨rfl, hb2'⟩

end Go.Proofs.Ytkalflhepnbppaa
