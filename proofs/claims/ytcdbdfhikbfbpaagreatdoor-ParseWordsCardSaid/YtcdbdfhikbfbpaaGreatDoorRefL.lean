/- Layer 7: the document's Level. -/
import Derived.Test.YtcdbdfhikbfbpaaGreatDoorParX
namespace Go.Proofs.YtcdbdfhikbfbpaaGreatDoor
open Go.ChangeShapes Go.WideShapes Go.ChangeAt Go.RowKit
set_option linter.unusedVariables false

/-- The document's levels. -/
def lvL : List (List (List UInt8)) := [[[124, 124]], [[38, 38]], [[61, 61], [33, 61], [60], [60, 61], [62], [62, 61]], [[124]], [[38]], [[60, 60], [62, 62]], [[43], [45]], [[42], [47], [37]]]
def lvD (i : Nat) : List (List UInt8) := lvL.getD i []
def lvT (i k : Nat) : List UInt8 := (lvD i).getD k []
theorem lv_yes : ∀ i < 8, ∀ k < (lvD i).length, levelL (lvT i k) = i + 1 := by decide
theorem lv_all : ∀ x ∈ opsL, ∃ i, i < 8 ∧ ∃ k, k < (lvD i).length ∧ x.1 = lvT i k := by decide
theorem lv_no {t : List UInt8} (h : ∀ i < 8, ∀ k < (lvD i).length, t ≠ lvT i k) : levelL t = 0 := by
  refine level_none fun x hx e => ?_
  obtain ⟨i, hi, k, hk, e'⟩ := lv_all x hx
  exact h i hi k hk (e.trans e')
theorem lv_len : ∀ i < 8, 1 ≤ (lvD i).length ∧ (lvD i).length ≤ 6 := by decide
theorem allocs_old : ∀ (l : List Obj) (w : World) (j : Nat), j < w.heap.size → (l.foldl World.alloc w).heap[j]? = w.heap[j]?
  | [], _, _, _ => rfl
  | a :: r, w, j, h => (allocs_old r (w.alloc a) j (by simp; omega)).trans (Below.heap_alloc _ _ _ h)
theorem allocs_at : ∀ (l : List Obj) (w : World) (i : Nat) (o : Obj), l[i]? = some o → (l.foldl World.alloc w).heap[w.heap.size + i]? = some o
  | [], _, _, _, h => by simp at h
  | a :: r, w, 0, o, h => by
    simp only [List.getElem?_cons_zero, Option.some.injEq] at h
    subst h
    exact (allocs_old r (w.alloc a) w.heap.size (by simp)).trans (heap_alloc_new w a)
  | a :: r, w, i + 1, o, h => by
    rw [List.getElem?_cons_succ] at h
    have := allocs_at r (w.alloc a) i o h
    rw [show (w.alloc a).heap.size + i = w.heap.size + (i + 1) from by simp; omega] at this
    exact this
theorem allocs_below : ∀ (l : List Obj) (w w' : World) (B : Nat), B ≤ w'.heap.size → Below B w w' → Below B w (l.foldl World.alloc w')
  | [], _, _, _, _, h => h
  | a :: r, w, w', B, hB, h => allocs_below r w (w'.alloc a) B (by simp; omega) (h.alloc hB a)
/-- The lists of the levels in memory. -/
def lvRow (i : Nat) : Obj := .cells ((lvD i).map fun s => Value.string (bs s)).toArray 9
def lvHead (n : Nat) : Obj := .cells ((List.range 8).map fun i => Value.slice (some ⟨n + i, 0, none⟩) (lvD i).length (lvD i).length).toArray 58
def lvObj (n : Nat) : List Obj := [lvRow 0, lvRow 1, lvRow 2, lvRow 3, lvRow 4, lvRow 5, lvRow 6, lvRow 7, lvHead n]
def LvW (w : World) : World := (lvObj w.heap.size).foldl World.alloc w
theorem LvW_row (w : World) (i : Nat) (hi : i < 8) : (LvW w).heap[w.heap.size + i]? = some (.cells ((lvD i).map fun s => Value.string (bs s)).toArray 9 (0, 0)) := by
  refine allocs_at _ w i _ ?_
  have h8 : i = 0 ∨ i = 1 ∨ i = 2 ∨ i = 3 ∨ i = 4 ∨ i = 5 ∨ i = 6 ∨ i = 7 := by omega
  rcases h8 with rfl | rfl | rfl | rfl | rfl | rfl | rfl | rfl <;> rfl
theorem LvW_head (w : World) : (LvW w).heap[w.heap.size + 8]? = some (.cells ((List.range 8).map fun i => Value.slice (some ⟨w.heap.size + i, 0, none⟩) (lvD i).length (lvD i).length).toArray 58 (0, 0)) := allocs_at _ w 8 _ rfl
theorem LvW_at (w : World) (i : Nat) (hi : i < 8) : (LvW w).cell? ⟨w.heap.size + 8, i, none⟩ = some (.slice (some ⟨w.heap.size + i, 0, none⟩) (lvD i).length (lvD i).length) := by
  rw [cell_of_row _ _ _ _ _ (0, 0) (LvW_head w), List.getElem?_toArray, List.getElem?_map, List.getElem?_range hi]; rfl
theorem LvW_text (w : World) (i k : Nat) (hi : i < 8) (hk : k < (lvD i).length) : (LvW w).cell? ⟨w.heap.size + i, k, none⟩ = some (.string (bs (lvT i k))) := by
  rw [cell_of_row _ _ _ _ _ (0, 0) (LvW_row w i hi), List.getElem?_toArray, List.getElem?_map]
  unfold lvT
  rw [List.getD_eq_getElem?_getD, List.getElem?_eq_getElem hk]; rfl
theorem LvW_below (w : World) : Below w.heap.size w (LvW w) := allocs_below _ w w _ (Nat.le_refl _) (Below.refl _ _)
set_option maxHeartbeats 4000000 in
set_option maxRecDepth 100000 in
theorem refLevel_any (t : List UInt8) (w : World) :
    Calls Tryz.prog 19 #[.string (bs t)] w fun e w' => e = .returned (.int .i64 (levelL t : Nat)) ∧ Below w.heap.size w w' := by
  go_enter Tryz.func19, Tryz.ntmps19
  go_wp2_with fail
  change Code.wp _ _ _ _ (LvW w)
  have hA : ∀ i, i < 8 → (LvW w).cell? ⟨w.heap.size + 1 + 1 + 1 + 1 + 1 + 1 + 1 + 1, i, none⟩ = some (.slice (some ⟨w.heap.size + i, 0, none⟩) (lvD i).length (lvD i).length) := LvW_at w
  have hT := LvW_text w
  have hb := LvW_below w
  generalize w.heap.size + 1 + 1 + 1 + 1 + 1 + 1 + 1 + 1 = o at hA ⊢
  generalize LvW w = W at hA hT hb ⊢
  have hb := Lib.hid hb
  have hA := Lib.hid hA
  have hT := Lib.hid hT
  go_loopw [4] (fun s4 wr => ∃ i : Nat, s4 = .int .i64 i ∧ i ≤ 8 ∧ wr = W ∧ Hid (∀ j, j < i → ∀ k, k < (lvD j).length → t ≠ lvT j k)) (fun s4 _ => 8 - (intOf s4).toNat)
  case atStart => exact ⟨0, rfl, by omega, rfl, Lib.hid fun j hj => by omega⟩
  case round =>
    obtain ⟨i, rfl, hi, rfl, hno⟩ := hrel
    by_cases hlt : i < 8
    · have a0 := hA.out i hlt
      have hln := lv_len i hlt
      generalize hl : (lvD i).length = n at a0 hln
      go_wp2_with fail
      go_loopw [5] (fun s5 wr' => ∃ k : Nat, s5 = .int .i64 k ∧ k ≤ n ∧ wr' = wr ∧ Hid (∀ j, j < k → t ≠ lvT i j)) (fun s5 _ => n - (intOf s5).toNat)
      case atStart => exact ⟨0, rfl, by omega, rfl, Lib.hid fun j hj => by omega⟩
      case round =>
        obtain ⟨k, rfl, hk, rfl, hno2⟩ := hrel
        by_cases hkl : k < n
        · have b0 := hT.out i k hlt (by omega)
          have he := beq_bs (lvT i k) t
          by_cases e : lvT i k = t
          · rw [decide_eq_true e] at he
            have hv := lv_yes i hlt k (by omega)
            rw [e] at hv
            go_wp2_with fail
            go_ret
            exact ⟨retI (by rw [hv]; omega), hb.out⟩
          · rw [decide_eq_false e] at he
            go_wp2_with fail
            go_roundw
            case rel => exact ⟨k + 1, by go_num, by omega, trivial, Lib.hid fun j hj => by
              by_cases hjk : j = k
              · subst hjk; exact fun h => e h.symm
              · exact hno2.out j (by omega)⟩
            case measure => simp [intOf]; omega
        · obtain rfl : k = n := by omega
          go_wp2_with fail
          go_roundw
          case rel => exact ⟨i + 1, by go_num, by omega, trivial, Lib.hid fun j hj => by
            by_cases hji : j = i
            · subst hji; intro k hk'; exact hno2.out k (by omega)
            · exact hno.out j (by omega)⟩
          case measure => simp [intOf]; omega
    · obtain rfl : i = 8 := by omega
      have hv := lv_no (t := t) hno.out
      go_wp2_with fail
      go_ret
      exact ⟨retI (by rw [hv]; rfl), hb.out⟩
end Go.Proofs.YtcdbdfhikbfbpaaGreatDoor
