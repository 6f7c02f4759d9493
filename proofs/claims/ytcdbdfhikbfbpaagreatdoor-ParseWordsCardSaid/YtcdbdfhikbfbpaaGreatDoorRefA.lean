/- Layer 7: words, by the document. -/
import Derived.Test.YtcdbdfhikbfbpaaGreatDoorParX
namespace Go.Proofs.YtcdbdfhikbfbpaaGreatDoor
open Go.ChangeShapes Go.WideShapes Go.ChangeAt Go.RowKit
set_option linter.unusedVariables false

def inD : List UInt8 × Nat × Bool := ([], 0, false)
/-- The integer among these words. -/
def intF (l : List (List UInt8 × Nat × Bool)) (t : List UInt8) : Option (Nat × Bool) := (l.find? (fun x => x.1 == t)).map (·.2)
theorem intF_step {k : Nat} (h : k < 9) (t : List UInt8) : intF (intsL.drop k) t = if (intsL.getD k inD).1 = t then some (intsL.getD k inD).2 else intF (intsL.drop (k + 1)) t := by
  have hk : k < intsL.length := h
  unfold intF
  rw [List.drop_eq_getElem_cons hk, List.find?_cons, List.getD_eq_getElem?_getD, List.getElem?_eq_getElem hk, Option.getD_some]
  by_cases e : intsL[k].1 = t
  · rw [if_pos e, show (intsL[k].1 == t) = true from by rw [beq_iff_eq]; exact e]
    rfl
  · rw [if_neg e, show (intsL[k].1 == t) = false from by rw [beq_eq_false_iff_ne]; exact e]
def intQ (o : Option (Nat × Bool)) : Value := match o with
  | some (z, li) => .tuple #[.int .i64 (z : Int), .bool li]
  | none => .tuple #[.int .i64 0, .bool false]
set_option maxHeartbeats 1000000 in
set_option maxRecDepth 100000 in
theorem refInteger_any (t : List UInt8) (w : World) :
    Calls Tryz.prog 15 #[.string (bs t)] w fun e w' => e = .returned (intQ (intW t)) ∧ Below w.heap.size w w' := by
  have H0 : Hid (intW t = intF (intsL.drop 0) t) := Lib.hid rfl
  go_enter Tryz.func15, Tryz.ntmps15
  go_wp2_with fail
  go_loopw [6] (fun i wr => ∃ k : Nat, k ≤ 9 ∧ i = .int .i64 k ∧ Hid (intW t = intF (intsL.drop k) t) ∧ (∀ j, j < 9 → wr.cell? ⟨w.heap.size, j, none⟩ = some (.string (bs (intsL.getD j inD).1)) ∧ wr.cell? ⟨w.heap.size + 1, j, none⟩ = some (.int .i64 (((intsL.getD j inD).2.1 : Nat) : Int))) ∧ Below w.heap.size w wr) (fun i _ => 9 - (intOf i).toNat)
  case atStart =>
    refine ⟨0, by omega, rfl, H0, fun j hj => ?_, ((Below.refl _ w).alloc (Nat.le_refl _) _).alloc (by simp) _⟩
    match j, hj with
    | 0, _ => simp [go_sem]; exact ⟨rfl, rfl⟩
    | 1, _ => simp [go_sem]; exact ⟨rfl, rfl⟩
    | 2, _ => simp [go_sem]; exact ⟨rfl, rfl⟩
    | 3, _ => simp [go_sem]; exact ⟨rfl, rfl⟩
    | 4, _ => simp [go_sem]; exact ⟨rfl, rfl⟩
    | 5, _ => simp [go_sem]; exact ⟨rfl, rfl⟩
    | 6, _ => simp [go_sem]; exact ⟨rfl, rfl⟩
    | 7, _ => simp [go_sem]; exact ⟨rfl, rfl⟩
    | 8, _ => simp [go_sem]; exact ⟨rfl, rfl⟩
  case round =>
    obtain ⟨k, hk, rfl, H, hc, hb⟩ := hrel
    by_cases hlt : k < 9
    · obtain ⟨c0, c1⟩ := hc k hlt
      have hs := intF_step hlt t
      have HC := Lib.hid hc
      have HB := Lib.hid hb
      have HS := Lib.hid (H.out.trans hs)
      have hb1 := beq_bs (intsL.getD k inD).1 t
      clear hc hb H hs H0
      by_cases e1 : (intsL.getD k inD).1 = t
      · rw [decide_eq_true e1] at hb1
        have HR := Lib.hid (HS.out.trans (if_pos e1))
        obtain ⟨q, HQ⟩ : ∃ q, Hid ((intsL.getD k inD).1 = q) := ⟨_, Lib.hid rfl⟩
        obtain ⟨z, HZ⟩ : ∃ z, Hid ((intsL.getD k inD).2.1 = z) := ⟨_, Lib.hid rfl⟩
        rw [HQ.out] at c0 hb1
        rw [HZ.out] at c1
        clear e1 HS
        have h9 : k = 0 ∨ k = 1 ∨ k = 2 ∨ k = 3 ∨ k = 4 ∨ k = 5 ∨ k = 6 ∨ k = 7 ∨ k = 8 := by omega
        rcases h9 with rfl | rfl | rfl | rfl | rfl | rfl | rfl | rfl | rfl
        · have d1 : w.heap.size < wr.heap.size := World.block_lt_of_cell? wr ⟨w.heap.size, 0, none⟩ c0
          go_wp2_with fail
          first | go_region | skip
          try go_wp2_with fail
          exact bodyPost_ret (v := .tuple #[.int .i64 (z : Int), .bool false]) (by simp [results, Tryz.results15, go_sem]) rfl ⟨by rw [HR.out, ← HZ.out]; rfl, HB.out⟩
        · have d1 : w.heap.size < wr.heap.size := World.block_lt_of_cell? wr ⟨w.heap.size, 1, none⟩ c0
          go_wp2_with fail
          first | go_region | skip
          try go_wp2_with fail
          exact bodyPost_ret (v := .tuple #[.int .i64 (z : Int), .bool false]) (by simp [results, Tryz.results15, go_sem]) rfl ⟨by rw [HR.out, ← HZ.out]; rfl, HB.out⟩
        · have d1 : w.heap.size < wr.heap.size := World.block_lt_of_cell? wr ⟨w.heap.size, 2, none⟩ c0
          go_wp2_with fail
          first | go_region | skip
          try go_wp2_with fail
          exact bodyPost_ret (v := .tuple #[.int .i64 (z : Int), .bool true]) (by simp [results, Tryz.results15, go_sem]) rfl ⟨by rw [HR.out, ← HZ.out]; rfl, HB.out⟩
        · have d1 : w.heap.size < wr.heap.size := World.block_lt_of_cell? wr ⟨w.heap.size, 3, none⟩ c0
          go_wp2_with fail
          first | go_region | skip
          try go_wp2_with fail
          exact bodyPost_ret (v := .tuple #[.int .i64 (z : Int), .bool false]) (by simp [results, Tryz.results15, go_sem]) rfl ⟨by rw [HR.out, ← HZ.out]; rfl, HB.out⟩
        · have d1 : w.heap.size < wr.heap.size := World.block_lt_of_cell? wr ⟨w.heap.size, 4, none⟩ c0
          go_wp2_with fail
          first | go_region | skip
          try go_wp2_with fail
          exact bodyPost_ret (v := .tuple #[.int .i64 (z : Int), .bool true]) (by simp [results, Tryz.results15, go_sem]) rfl ⟨by rw [HR.out, ← HZ.out]; rfl, HB.out⟩
        · have d1 : w.heap.size < wr.heap.size := World.block_lt_of_cell? wr ⟨w.heap.size, 5, none⟩ c0
          go_wp2_with fail
          first | go_region | skip
          try go_wp2_with fail
          exact bodyPost_ret (v := .tuple #[.int .i64 (z : Int), .bool false]) (by simp [results, Tryz.results15, go_sem]) rfl ⟨by rw [HR.out, ← HZ.out]; rfl, HB.out⟩
        · have d1 : w.heap.size < wr.heap.size := World.block_lt_of_cell? wr ⟨w.heap.size, 6, none⟩ c0
          go_wp2_with fail
          first | go_region | skip
          try go_wp2_with fail
          exact bodyPost_ret (v := .tuple #[.int .i64 (z : Int), .bool true]) (by simp [results, Tryz.results15, go_sem]) rfl ⟨by rw [HR.out, ← HZ.out]; rfl, HB.out⟩
        · have d1 : w.heap.size < wr.heap.size := World.block_lt_of_cell? wr ⟨w.heap.size, 7, none⟩ c0
          go_wp2_with fail
          first | go_region | skip
          try go_wp2_with fail
          exact bodyPost_ret (v := .tuple #[.int .i64 (z : Int), .bool false]) (by simp [results, Tryz.results15, go_sem]) rfl ⟨by rw [HR.out, ← HZ.out]; rfl, HB.out⟩
        · have d1 : w.heap.size < wr.heap.size := World.block_lt_of_cell? wr ⟨w.heap.size, 8, none⟩ c0
          go_wp2_with fail
          first | go_region | skip
          try go_wp2_with fail
          exact bodyPost_ret (v := .tuple #[.int .i64 (z : Int), .bool true]) (by simp [results, Tryz.results15, go_sem]) rfl ⟨by rw [HR.out, ← HZ.out]; rfl, HB.out⟩
      · rw [decide_eq_false e1] at hb1
        have HR := Lib.hid (HS.out.trans (if_neg e1))
        generalize (intsL.getD k inD).1 = q at *
        generalize (intsL.getD k inD).2.1 = z at *
        clear e1 HS
        go_wp2_with fail
        go_roundw
        case rel => exact ⟨k + 1, by omega, by go_num, HR, HC.out, HB.out⟩
        case measure => simp [intOf]; omega
    · obtain rfl : k = 9 := by omega
      have HR : Hid (intW t = none) := Lib.hid H.out
      clear H H0
      go_wp2_with fail
      exact bodyPost_ret (v := .tuple #[.int .i64 0, .bool false]) (by simp [results, Tryz.results15, go_sem]) rfl ⟨by rw [HR.out]; rfl, hb⟩
theorem intQ_pos {t : List UInt8} {p : Nat × Bool} (h : intW t = some p) : 0 < p.1 := by
  unfold intW at h
  obtain ⟨x, hx, rfl⟩ := Option.map_eq_some_iff.1 h
  have hm := List.mem_of_find?_eq_some hx
  have : ∀ x ∈ intsL, 0 < x.2.1 := by decide
  exact this x hm
set_option maxHeartbeats 1000000 in
set_option maxRecDepth 100000 in
theorem refKeyword_any (t : List UInt8) (w : World) :
    Calls Tryz.prog 17 #[.string (bs t)] w fun e w' => e = .returned (.bool (isKw t)) ∧ Below w.heap.size w w' := by
  have HN := Lib.hid (fun w => refInteger_any t w)
  go_enter Tryz.func17, Tryz.ntmps17
  go_wp2_with fail
  go_loopw [4] (fun i wr => ∃ k : Nat, k ≤ 19 ∧ i = .int .i64 k ∧ Hid (isKw t = ((kwL.drop k).contains t || (intW t).isSome)) ∧ (∀ j, j < 19 → wr.cell? ⟨w.heap.size, j, none⟩ = some (.string (bs (kwL.getD j [])))) ∧ Below w.heap.size w wr) (fun i _ => 19 - (intOf i).toNat)
  case atStart =>
    refine ⟨0, by omega, rfl, Lib.hid rfl, fun j hj => ?_, (Below.refl _ w).alloc (Nat.le_refl _) _⟩
    have hk : j < kwL.length := hj
    rw [cell_of_row _ _ _ _ _ (0, 0) (heap_alloc_new w _), List.getD_eq_getElem?_getD, List.getElem?_eq_getElem hk]
    have : (kwL.map fun g => Value.string (bs g))[j]? = some (.string (bs (kwL[j]))) := by rw [List.getElem?_map, List.getElem?_eq_getElem hk]; rfl
    have e : (kwL.map fun g => Value.string (bs g)).toArray[j]? = some (.string (bs (kwL[j]))) := by rw [List.getElem?_toArray]; exact this
    exact e
  case round =>
    obtain ⟨k, hk, rfl, H, hc, hb⟩ := hrel
    by_cases hlt : k < 19
    · have c0 := hc k hlt
      have hs := kw_step hlt t
      obtain ⟨z, hz⟩ : ∃ z, kwL.getD k [] = z := ⟨_, rfl⟩
      rw [hz] at c0 hs
      have HS := Lib.hid (H.out)
      rw [hs] at HS
      have b1 := beq_bs z t
      have HC := Lib.hid hc
      have HB := Lib.hid hb
      clear hs hz H hc hb
      by_cases e1 : t = z
      · rw [decide_eq_true e1.symm] at b1
        rw [decide_eq_true e1] at HS
        have HR : Hid (isKw t = true) := Lib.hid (by rw [HS.out]; rfl)
        clear e1 HS
        go_wp2_with fail
        go_ret
        exact ⟨retBe HR.out.symm, HB.out⟩
      · rw [decide_eq_false (fun e => e1 e.symm)] at b1
        rw [decide_eq_false e1] at HS
        clear e1
        go_wp2_with fail
        go_roundw
        case rel => exact ⟨k + 1, by omega, by go_num, Lib.hid (by rw [HS.out, Bool.false_or]), HC.out, HB.out⟩
        case measure => simp [intOf]; omega
    · obtain rfl : k = 19 := by omega
      have HR : Hid (isKw t = (intW t).isSome) := Lib.hid (H.out)
      have HB := Lib.hid hb
      clear H hc hb
      cases hi : intW t with
      | none =>
        have hn := fun w => HN.out w
        rw [hi] at hn HR
        simp only [intQ] at hn
        have HN2 := Lib.hid hn
        clear hn HN hi
        go_wp2_with (go_at_call 15; go_must (refine (HN2.out _).mono ?_; rintro e w' ⟨rfl, hb'⟩))
        go_ret
        exact ⟨retBe HR.out.symm, chain HB.out (Nat.le_refl _) hb'⟩
      | some p =>
        have hp := intQ_pos hi
        obtain ⟨z, li⟩ := p
        have hp : (0 : Int) < z := by simp only at hp; omega
        have hn := fun w => HN.out w
        rw [hi] at hn HR
        simp only [intQ] at hn
        have HN2 := Lib.hid hn
        clear hn HN hi
        go_wp2_with (go_at_call 15; go_must (refine (HN2.out _).mono ?_; rintro e w' ⟨rfl, hb'⟩))
        go_ret
        exact ⟨retBe HR.out.symm, chain HB.out (Nat.le_refl _) hb'⟩
end Go.Proofs.YtcdbdfhikbfbpaaGreatDoor
