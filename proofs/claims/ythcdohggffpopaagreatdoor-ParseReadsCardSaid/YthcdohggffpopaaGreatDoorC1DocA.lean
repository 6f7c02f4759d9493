/- Layer 7: words, by the document. · Layer 7: the document's Level. · Layer 7: the document's parser in memory; its first functions. -/
import Derived.Test.YthcdohggffpopaaGreatDoorC1ParX
import Derived.Test.YthcdohggffpopaaGreatDoorC1ParO
namespace Go.Proofs.YthcdohggffpopaaGreatDoor
open Go.Lib (hid)
open Go.ChangeShapes Go.WideShapes Go.ChangeAt Go.RowKit
def inD : List UInt8 × Nat × Bool := ([], 0, false)
def intF (l : List (List UInt8 × Nat × Bool)) (t : List UInt8) : Option (Nat × Bool) := (l.find? (fun x => x.1 == t)).map (·.2)
theorem intF_step {k : Nat} (h : k < 9) (t : List UInt8) : intF (intsL.drop k) t = if (intsL.getD k inD).1 = t then some (intsL.getD k inD).2 else intF (intsL.drop (k + 1)) t := by
  have hk : k < intsL.length := h
  unfold intF
  rw [List.drop_eq_getElem_cons hk, List.find?_cons, List.getD_eq_getElem?_getD, List.getElem?_eq_getElem hk, Option.getD_some]
  by_cases e : intsL[k].1 = t
  · rw [if_pos e, show (intsL[k].1 == t) = true from by rw [beq_iff_eq]; exact e]
    rfl
  · rw [if_neg e, show (intsL[k].1 == t) = false from by rw [beq_eq_false_iff_ne]; exact e]
def intQ (o : Option (Nat × Bool)) : Value := match o with
  | some (z, li) => .tuple #[.int .i64 (z : Int), .bool li]
  | none => .tuple #[.int .i64 0, .bool false]
set_option maxHeartbeats 1000000 in
set_option maxRecDepth 100000 in
theorem refInteger_any (t : List UInt8) (w : World) :
    Calls Tryz.prog 120 #[.string (bs t)] w fun e w' => e = .returned (intQ (intW t)) ∧ Below w.heap.size w w' := by
  have H0 : Hid (intW t = intF (intsL.drop 0) t) := hid rfl
  go_enter Tryz.func120, Tryz.ntmps120
  go_wp2_with fail
  go_loopw [6] (fun i wr => ∃ k : Nat, k ≤ 9 ∧ i = .int .i64 k ∧ Hid (intW t = intF (intsL.drop k) t) ∧ (∀ j, j < 9 → wr.cell? ⟨w.heap.size, j, none⟩ = some (.string (bs (intsL.getD j inD).1)) ∧ wr.cell? ⟨w.heap.size + 1, j, none⟩ = some (.int .i64 (((intsL.getD j inD).2.1 : Nat) : Int))) ∧ Below w.heap.size w wr) (fun i _ => 9 - (intOf i).toNat)
  case atStart =>
    refine ⟨0, by omega, rfl, H0, fun j hj => ?_, ((Below.refl _ w).alloc (Nat.le_refl _) _).alloc (by simp) _⟩
    match j, hj with
    | 0, _ => simp [go_sem]; exact ⟨rfl, rfl⟩
    | 1, _ => simp [go_sem]; exact ⟨rfl, rfl⟩
    | 2, _ => simp [go_sem]; exact ⟨rfl, rfl⟩
    | 3, _ => simp [go_sem]; exact ⟨rfl, rfl⟩
    | 4, _ => simp [go_sem]; exact ⟨rfl, rfl⟩
    | 5, _ => simp [go_sem]; exact ⟨rfl, rfl⟩
    | 6, _ => simp [go_sem]; exact ⟨rfl, rfl⟩
    | 7, _ => simp [go_sem]; exact ⟨rfl, rfl⟩
    | 8, _ => simp [go_sem]; exact ⟨rfl, rfl⟩
  case round =>
    obtain ⟨k, hk, rfl, H, hc, hb⟩ := hrel
    by_cases hlt : k < 9
    · obtain ⟨c0, c1⟩ := hc k hlt
      have hs := intF_step hlt t
      have HC := hid hc
      have HB := hid hb
      have HS := hid (H.out.trans hs)
      have hb1 := beq_bs (intsL.getD k inD).1 t
      clear hc hb H hs H0
      by_cases e1 : (intsL.getD k inD).1 = t
      · rw [decide_eq_true e1] at hb1
        have HR := hid (HS.out.trans (if_pos e1))
        obtain ⟨q, HQ⟩ : ∃ q, Hid ((intsL.getD k inD).1 = q) := ⟨_, hid rfl⟩
        obtain ⟨z, HZ⟩ : ∃ z, Hid ((intsL.getD k inD).2.1 = z) := ⟨_, hid rfl⟩
        rw [HQ.out] at c0 hb1
        rw [HZ.out] at c1
        clear e1 HS
        have h9 : k = 0 ∨ k = 1 ∨ k = 2 ∨ k = 3 ∨ k = 4 ∨ k = 5 ∨ k = 6 ∨ k = 7 ∨ k = 8 := by omega
        rcases h9 with rfl | rfl | rfl | rfl | rfl | rfl | rfl | rfl | rfl
        · have d1 : w.heap.size < wr.heap.size := World.block_lt_of_cell? wr ⟨w.heap.size, 0, none⟩ c0
          go_wp2_with fail
          first | go_region | skip
          try go_wp2_with fail
          exact bodyPost_ret (v := .tuple #[.int .i64 (z : Int), .bool false]) (by simp [results, Tryz.results120, go_sem]) rfl ⟨by rw [HR.out, ← HZ.out]; rfl, HB.out⟩
        · have d1 : w.heap.size < wr.heap.size := World.block_lt_of_cell? wr ⟨w.heap.size, 1, none⟩ c0
          go_wp2_with fail
          first | go_region | skip
          try go_wp2_with fail
          exact bodyPost_ret (v := .tuple #[.int .i64 (z : Int), .bool false]) (by simp [results, Tryz.results120, go_sem]) rfl ⟨by rw [HR.out, ← HZ.out]; rfl, HB.out⟩
        · have d1 : w.heap.size < wr.heap.size := World.block_lt_of_cell? wr ⟨w.heap.size, 2, none⟩ c0
          go_wp2_with fail
          first | go_region | skip
          try go_wp2_with fail
          exact bodyPost_ret (v := .tuple #[.int .i64 (z : Int), .bool true]) (by simp [results, Tryz.results120, go_sem]) rfl ⟨by rw [HR.out, ← HZ.out]; rfl, HB.out⟩
        · have d1 : w.heap.size < wr.heap.size := World.block_lt_of_cell? wr ⟨w.heap.size, 3, none⟩ c0
          go_wp2_with fail
          first | go_region | skip
          try go_wp2_with fail
          exact bodyPost_ret (v := .tuple #[.int .i64 (z : Int), .bool false]) (by simp [results, Tryz.results120, go_sem]) rfl ⟨by rw [HR.out, ← HZ.out]; rfl, HB.out⟩
        · have d1 : w.heap.size < wr.heap.size := World.block_lt_of_cell? wr ⟨w.heap.size, 4, none⟩ c0
          go_wp2_with fail
          first | go_region | skip
          try go_wp2_with fail
          exact bodyPost_ret (v := .tuple #[.int .i64 (z : Int), .bool true]) (by simp [results, Tryz.results120, go_sem]) rfl ⟨by rw [HR.out, ← HZ.out]; rfl, HB.out⟩
        · have d1 : w.heap.size < wr.heap.size := World.block_lt_of_cell? wr ⟨w.heap.size, 5, none⟩ c0
          go_wp2_with fail
          first | go_region | skip
          try go_wp2_with fail
          exact bodyPost_ret (v := .tuple #[.int .i64 (z : Int), .bool false]) (by simp [results, Tryz.results120, go_sem]) rfl ⟨by rw [HR.out, ← HZ.out]; rfl, HB.out⟩
        · have d1 : w.heap.size < wr.heap.size := World.block_lt_of_cell? wr ⟨w.heap.size, 6, none⟩ c0
          go_wp2_with fail
          first | go_region | skip
          try go_wp2_with fail
          exact bodyPost_ret (v := .tuple #[.int .i64 (z : Int), .bool true]) (by simp [results, Tryz.results120, go_sem]) rfl ⟨by rw [HR.out, ← HZ.out]; rfl, HB.out⟩
        · have d1 : w.heap.size < wr.heap.size := World.block_lt_of_cell? wr ⟨w.heap.size, 7, none⟩ c0
          go_wp2_with fail
          first | go_region | skip
          try go_wp2_with fail
          exact bodyPost_ret (v := .tuple #[.int .i64 (z : Int), .bool false]) (by simp [results, Tryz.results120, go_sem]) rfl ⟨by rw [HR.out, ← HZ.out]; rfl, HB.out⟩
        · have d1 : w.heap.size < wr.heap.size := World.block_lt_of_cell? wr ⟨w.heap.size, 8, none⟩ c0
          go_wp2_with fail
          first | go_region | skip
          try go_wp2_with fail
          exact bodyPost_ret (v := .tuple #[.int .i64 (z : Int), .bool true]) (by simp [results, Tryz.results120, go_sem]) rfl ⟨by rw [HR.out, ← HZ.out]; rfl, HB.out⟩
      · rw [decide_eq_false e1] at hb1
        have HR := hid (HS.out.trans (if_neg e1))
        generalize (intsL.getD k inD).1 = q at *
        generalize (intsL.getD k inD).2.1 = z at *
        clear e1 HS
        go_wp2_with fail
        go_roundw
        case rel => exact ⟨k + 1, by omega, by go_num, HR, HC.out, HB.out⟩
        case measure => simp [intOf]; omega
    · obtain rfl : k = 9 := by omega
      have HR : Hid (intW t = none) := hid H.out
      clear H H0
      go_wp2_with fail
      exact bodyPost_ret (v := .tuple #[.int .i64 0, .bool false]) (by simp [results, Tryz.results120, go_sem]) rfl ⟨by rw [HR.out]; rfl, hb⟩
theorem intQ_pos {t : List UInt8} {p : Nat × Bool} (h : intW t = some p) : 0 < p.1 := by
  unfold intW at h
  obtain ⟨x, hx, rfl⟩ := Option.map_eq_some_iff.1 h
  have hm := List.mem_of_find?_eq_some hx
  have : ∀ x ∈ intsL, 0 < x.2.1 := by decide
  exact this x hm
set_option maxHeartbeats 1000000 in
set_option maxRecDepth 100000 in
theorem refKeyword_any (t : List UInt8) (w : World) :
    Calls Tryz.prog 152 #[.string (bs t)] w fun e w' => e = .returned (.bool (isKw t)) ∧ Below w.heap.size w w' := by
  have HN := hid (fun w => refInteger_any t w)
  go_enter Tryz.func152, Tryz.ntmps152
  go_wp2_with fail
  go_loopw [4] (fun i wr => ∃ k : Nat, k ≤ 19 ∧ i = .int .i64 k ∧ Hid (isKw t = ((kwL.drop k).contains t || (intW t).isSome)) ∧ (∀ j, j < 19 → wr.cell? ⟨w.heap.size, j, none⟩ = some (.string (bs (kwL.getD j [])))) ∧ Below w.heap.size w wr) (fun i _ => 19 - (intOf i).toNat)
  case atStart =>
    refine ⟨0, by omega, rfl, hid rfl, fun j hj => ?_, (Below.refl _ w).alloc (Nat.le_refl _) _⟩
    have hk : j < kwL.length := hj
    rw [cell_of_row _ _ _ _ _ (0, 0) (heap_alloc_new w _), List.getD_eq_getElem?_getD, List.getElem?_eq_getElem hk]
    have : (kwL.map fun g => Value.string (bs g))[j]? = some (.string (bs (kwL[j]))) := by rw [List.getElem?_map, List.getElem?_eq_getElem hk]; rfl
    have e : (kwL.map fun g => Value.string (bs g)).toArray[j]? = some (.string (bs (kwL[j]))) := by rw [List.getElem?_toArray]; exact this
    exact e
  case round =>
    obtain ⟨k, hk, rfl, H, hc, hb⟩ := hrel
    by_cases hlt : k < 19
    · have c0 := hc k hlt
      have hs := kw_step hlt t
      obtain ⟨z, hz⟩ : ∃ z, kwL.getD k [] = z := ⟨_, rfl⟩
      rw [hz] at c0 hs
      have HS := hid (H.out)
      rw [hs] at HS
      have b1 := beq_bs z t
      have HC := hid hc
      have HB := hid hb
      clear hs hz H hc hb
      by_cases e1 : t = z
      · rw [decide_eq_true e1.symm] at b1
        rw [decide_eq_true e1] at HS
        have HR : Hid (isKw t = true) := hid (by rw [HS.out]; rfl)
        clear e1 HS
        go_wp2_with fail
        go_ret
        exact ⟨retBe HR.out.symm, HB.out⟩
      · rw [decide_eq_false (fun e => e1 e.symm)] at b1
        rw [decide_eq_false e1] at HS
        clear e1
        go_wp2_with fail
        go_roundw
        case rel => exact ⟨k + 1, by omega, by go_num, hid (by rw [HS.out, Bool.false_or]), HC.out, HB.out⟩
        case measure => simp [intOf]; omega
    · obtain rfl : k = 19 := by omega
      have HR : Hid (isKw t = (intW t).isSome) := hid (H.out)
      have HB := hid hb
      clear H hc hb
      cases hi : intW t with
      | none =>
        have hn := fun w => HN.out w
        rw [hi] at hn HR
        simp only [intQ] at hn
        have HN2 := hid hn
        clear hn HN hi
        go_wp2_with (go_at_call 120; go_must (refine (HN2.out _).mono ?_; rintro e w' ⟨rfl, hb'⟩))
        go_ret
        exact ⟨retBe HR.out.symm, chain HB.out (Nat.le_refl _) hb'⟩
      | some p =>
        have hp := intQ_pos hi
        obtain ⟨z, li⟩ := p
        have hp : (0 : Int) < z := by simp only at hp; omega
        have hn := fun w => HN.out w
        rw [hi] at hn HR
        simp only [intQ] at hn
        have HN2 := hid hn
        clear hn HN hi
        go_wp2_with (go_at_call 120; go_must (refine (HN2.out _).mono ?_; rintro e w' ⟨rfl, hb'⟩))
        go_ret
        exact ⟨retBe HR.out.symm, chain HB.out (Nat.le_refl _) hb'⟩
end Go.Proofs.YthcdohggffpopaaGreatDoor
namespace Go.Proofs.YthcdohggffpopaaGreatDoor
open Go.Lib (hid)
open Go.ChangeShapes Go.WideShapes Go.ChangeAt Go.RowKit
def lvL : List (List (List UInt8)) := [[[124, 124]], [[38, 38]], [[61, 61], [33, 61], [60], [60, 61], [62], [62, 61]], [[124]], [[38]], [[60, 60], [62, 62]], [[43], [45]], [[42], [47], [37]]]
def lvD (i : Nat) : List (List UInt8) := lvL.getD i []
def lvT (i k : Nat) : List UInt8 := (lvD i).getD k []
theorem lv_yes : ∀ i < 8, ∀ k < (lvD i).length, levelL (lvT i k) = i + 1 := by decide
theorem lv_all : ∀ x ∈ opsL, ∃ i, i < 8 ∧ ∃ k, k < (lvD i).length ∧ x.1 = lvT i k := by decide
theorem lv_no {t : List UInt8} (h : ∀ i < 8, ∀ k < (lvD i).length, t ≠ lvT i k) : levelL t = 0 := by
  refine level_none fun x hx e => ?_
  obtain ⟨i, hi, k, hk, e'⟩ := lv_all x hx
  exact h i hi k hk (e.trans e')
theorem lv_len : ∀ i < 8, 1 ≤ (lvD i).length ∧ (lvD i).length ≤ 6 := by decide
theorem allocs_old : ∀ (l : List Obj) (w : World) (j : Nat), j < w.heap.size → (l.foldl World.alloc w).heap[j]? = w.heap[j]?
  | [], _, _, _ => rfl
  | a :: r, w, j, h => (allocs_old r (w.alloc a) j (by simp; omega)).trans (Below.heap_alloc _ _ _ h)
theorem allocs_at : ∀ (l : List Obj) (w : World) (i : Nat) (o : Obj), l[i]? = some o → (l.foldl World.alloc w).heap[w.heap.size + i]? = some o
  | [], _, _, _, h => by simp at h
  | a :: r, w, 0, o, h => by
    simp only [List.getElem?_cons_zero, Option.some.injEq] at h
    subst h
    exact (allocs_old r (w.alloc a) w.heap.size (by simp)).trans (heap_alloc_new w a)
  | a :: r, w, i + 1, o, h => by
    rw [List.getElem?_cons_succ] at h
    have := allocs_at r (w.alloc a) i o h
    rw [show (w.alloc a).heap.size + i = w.heap.size + (i + 1) from by simp; omega] at this
    exact this
theorem allocs_below : ∀ (l : List Obj) (w w' : World) (B : Nat), B ≤ w'.heap.size → Below B w w' → Below B w (l.foldl World.alloc w')
  | [], _, _, _, _, h => h
  | a :: r, w, w', B, hB, h => allocs_below r w (w'.alloc a) B (by simp; omega) (h.alloc hB a)
def lvRow (i : Nat) : Obj := .cells ((lvD i).map fun s => Value.string (bs s)).toArray 9
def lvHead (n : Nat) : Obj := .cells ((List.range 8).map fun i => Value.slice (some ⟨n + i, 0, none⟩) (lvD i).length (lvD i).length).toArray 52
def lvObj (n : Nat) : List Obj := [lvRow 0, lvRow 1, lvRow 2, lvRow 3, lvRow 4, lvRow 5, lvRow 6, lvRow 7, lvHead n]
def LvW (w : World) : World := (lvObj w.heap.size).foldl World.alloc w
theorem LvW_row (w : World) (i : Nat) (hi : i < 8) : (LvW w).heap[w.heap.size + i]? = some (.cells ((lvD i).map fun s => Value.string (bs s)).toArray 9 (0, 0)) := by
  refine allocs_at _ w i _ ?_
  have h8 : i = 0 ∨ i = 1 ∨ i = 2 ∨ i = 3 ∨ i = 4 ∨ i = 5 ∨ i = 6 ∨ i = 7 := by omega
  rcases h8 with rfl | rfl | rfl | rfl | rfl | rfl | rfl | rfl <;> rfl
theorem LvW_head (w : World) : (LvW w).heap[w.heap.size + 8]? = some (.cells ((List.range 8).map fun i => Value.slice (some ⟨w.heap.size + i, 0, none⟩) (lvD i).length (lvD i).length).toArray 52 (0, 0)) := allocs_at _ w 8 _ rfl
theorem LvW_at (w : World) (i : Nat) (hi : i < 8) : (LvW w).cell? ⟨w.heap.size + 8, i, none⟩ = some (.slice (some ⟨w.heap.size + i, 0, none⟩) (lvD i).length (lvD i).length) := by
  rw [cell_of_row _ _ _ _ _ (0, 0) (LvW_head w), List.getElem?_toArray, List.getElem?_map, List.getElem?_range hi]; rfl
theorem LvW_text (w : World) (i k : Nat) (hi : i < 8) (hk : k < (lvD i).length) : (LvW w).cell? ⟨w.heap.size + i, k, none⟩ = some (.string (bs (lvT i k))) := by
  rw [cell_of_row _ _ _ _ _ (0, 0) (LvW_row w i hi), List.getElem?_toArray, List.getElem?_map]
  unfold lvT
  rw [List.getD_eq_getElem?_getD, List.getElem?_eq_getElem hk]; rfl
theorem LvW_below (w : World) : Below w.heap.size w (LvW w) := allocs_below _ w w _ (Nat.le_refl _) (Below.refl _ _)
set_option maxHeartbeats 4000000 in
set_option maxRecDepth 100000 in
theorem refLevel_any (t : List UInt8) (w : World) :
    Calls Tryz.prog 73 #[.string (bs t)] w fun e w' => e = .returned (.int .i64 (levelL t : Nat)) ∧ Below w.heap.size w w' := by
  go_enter Tryz.func73, Tryz.ntmps73
  go_wp2_with fail
  change Code.wp _ _ _ _ (LvW w)
  have hA : ∀ i, i < 8 → (LvW w).cell? ⟨w.heap.size + 1 + 1 + 1 + 1 + 1 + 1 + 1 + 1, i, none⟩ = some (.slice (some ⟨w.heap.size + i, 0, none⟩) (lvD i).length (lvD i).length) := LvW_at w
  have hT := LvW_text w
  have hb := LvW_below w
  generalize w.heap.size + 1 + 1 + 1 + 1 + 1 + 1 + 1 + 1 = o at hA ⊢
  generalize LvW w = W at hA hT hb ⊢
  have hb := hid hb
  have hA := hid hA
  have hT := hid hT
  go_loopw [4] (fun s4 wr => ∃ i : Nat, s4 = .int .i64 i ∧ i ≤ 8 ∧ wr = W ∧ Hid (∀ j, j < i → ∀ k, k < (lvD j).length → t ≠ lvT j k)) (fun s4 _ => 8 - (intOf s4).toNat)
  case atStart => exact ⟨0, rfl, by omega, rfl, hid fun j hj => by omega⟩
  case round =>
    obtain ⟨i, rfl, hi, rfl, hno⟩ := hrel
    by_cases hlt : i < 8
    · have a0 := hA.out i hlt
      have hln := lv_len i hlt
      generalize hl : (lvD i).length = n at a0 hln
      go_wp2_with fail
      go_loopw [5] (fun s5 wr' => ∃ k : Nat, s5 = .int .i64 k ∧ k ≤ n ∧ wr' = wr ∧ Hid (∀ j, j < k → t ≠ lvT i j)) (fun s5 _ => n - (intOf s5).toNat)
      case atStart => exact ⟨0, rfl, by omega, rfl, hid fun j hj => by omega⟩
      case round =>
        obtain ⟨k, rfl, hk, rfl, hno2⟩ := hrel
        by_cases hkl : k < n
        · have b0 := hT.out i k hlt (by omega)
          have he := beq_bs (lvT i k) t
          by_cases e : lvT i k = t
          · rw [decide_eq_true e] at he
            have hv := lv_yes i hlt k (by omega)
            rw [e] at hv
            go_wp2_with fail
            go_ret
            exact ⟨retI (by rw [hv]; omega), hb.out⟩
          · rw [decide_eq_false e] at he
            go_wp2_with fail
            go_roundw
            case rel => exact ⟨k + 1, by go_num, by omega, trivial, hid fun j hj => by
              by_cases hjk : j = k
              · subst hjk; exact fun h => e h.symm
              · exact hno2.out j (by omega)⟩
            case measure => simp [intOf]; omega
        · obtain rfl : k = n := by omega
          go_wp2_with fail
          go_roundw
          case rel => exact ⟨i + 1, by go_num, by omega, trivial, hid fun j hj => by
            by_cases hji : j = i
            · subst hji; intro k hk'; exact hno2.out k (by omega)
            · exact hno.out j (by omega)⟩
          case measure => simp [intOf]; omega
    · obtain rfl : i = 8 := by omega
      have hv := lv_no (t := t) hno.out
      go_wp2_with fail
      go_ret
      exact ⟨retI (by rw [hv]; rfl), hb.out⟩
end Go.Proofs.YthcdohggffpopaaGreatDoor
namespace Go.Proofs.YthcdohggffpopaaGreatDoor
open Go.Lib (hid)
open Go.ChangeShapes Go.WideShapes Go.ChangeAt Go.RowKit
def layD : Lay := ⟨[3, 4, 5, 6], [3, 4], by decide, 124, 130, 58, 164, 149, 70, 201, 168⟩
theorem layD_ok : LayOK layD := ⟨by decide, by decide, by decide, by decide, by decide, by decide, by decide, by decide, by decide, by decide⟩
def TkD (P : Nat → Prop) (w : World) (a : Option Addr) (l : List Tok) : Prop := ∀ (i : Nat) t, l[i]? = some t → ∃ k, a = some ⟨k, 0, none⟩ ∧ P k ∧
  w.cell? ⟨k, i * 5, none⟩ = some (.int .i64 t.tk.k) ∧ w.cell? ⟨k, i * 5 + 1, none⟩ = some (.string (bs t.tk.t)) ∧ w.cell? ⟨k, i * 5 + 2, none⟩ = some (.int .u64 t.tk.n) ∧
  w.cell? ⟨k, i * 5 + 3, none⟩ = some (.int .i64 t.p.1) ∧ w.cell? ⟨k, i * 5 + 4, none⟩ = some (.int .i64 t.p.2)
theorem TkD.stay {P P' : Nat → Prop} {w w' : World} {a : Option Addr} {l : List Tok} (h : TkD P w a l) (hs : Stay P P' w w') : TkD P' w' a l := by
  intro i t ht
  obtain ⟨k, h0, h1, c0, c1, c2, c3, c4⟩ := h i t ht
  have q : ∀ (o : Nat) v, w.cell? ⟨k, o, none⟩ = some v → w'.cell? ⟨k, o, none⟩ = some v := fun o v e => (World.cell?_of_block (a := ⟨k, o, none⟩) (hs k h1).1).trans e
  exact ⟨k, h0, (hs k h1).2, q _ _ c0, q _ _ c1, q _ _ c2, q _ _ c3, q _ _ c4⟩
structure DInv (X : Nat → Prop) (g b : Nat) (w : World) (l : List Tok) (e : Nat) (d : Int) (f : FM) : Prop where
  wf : WF l
  mem : ∃ (L : List Tok) (i : Nat) (a : Option Addr) (c : Nat) (vc vs vx vt : Value), w.heap[g]? = some (.cells #[.slice a L.length c, .int .i64 (i : Int), .int .i64 d, vc, vs, vx, vt, .int .i64 (e : Int)] layD.pa (0, 0)) ∧ L.length ≤ c ∧ c ≤ maxLen ∧ L.drop i = l ∧ TkD (Pub X layD g w) w a L ∧ FRep layD (Pub X layD g w) w vc vs vx vt f
  pot : f.g.xs.length + f.g.ts.length + 3 * l.length ≤ b
  top : b ≤ 9000000
  lc : f.cs.length ≤ 65
  ls : f.ss.length ≤ 65
  priv : ∀ k, X k → Out layD g w k
section
variable {X : Nat → Prop} {g b : Nat} {w w' : World} {l : List Tok} {e : Nat} {d : Int} {f : FM}
theorem DInv.lt (h : DInv X g b w l e d f) : g < w.heap.size := by
  obtain ⟨L, i, a, c, vc, vs, vx, vt, hh, _⟩ := h.mem
  exact (Array.getElem?_eq_some_iff.1 hh).1
theorem DInv.below (h : DInv X g b w l e d f) (hb : Below w.heap.size w w') : DInv X g b w' l e d f := by
  have hs0 := (St.below (L := layD) h.lt hb)
  have hs := hs0.pub X
  obtain ⟨L, i, a, c, vc, vs, vx, vt, hh, h1, h2, h3, h4, h5⟩ := h.mem
  exact ⟨h.wf, ⟨L, i, a, c, vc, vs, vx, vt, (hb.block g h.lt).trans hh, h1, h2, h3, h4.stay hs,
    ⟨h5.c.stay Crep.kept hs fun k hk => hb.block k (h5.c.lt k hk), h5.s.stay (Srep.kept _) hs fun k hk => hb.block k (h5.s.lt k hk), h5.x.stay Xrep.kept hs fun k hk => hb.block k (h5.x.lt k hk), h5.t.stay (Trep.kept _) hs fun k hk => hb.block k (h5.t.lt k hk)⟩⟩, h.pot, h.top, h.lc, h.ls, fun k hk => (hs0.stay k (h.priv k hk)).2⟩
theorem DInv.mono {b' : Nat} (h : DInv X g b w l e d f) (hb : b ≤ b') (ht : b' ≤ 9000000) : DInv X g b' w l e d f := ⟨h.wf, h.mem, Nat.le_trans h.pot hb, ht, h.lc, h.ls, h.priv⟩
theorem DInv.look (h : DInv X g b w l e d f) : ∃ (i n k c : Nat), w.cell? ⟨g, 0, none⟩ = some (.slice (some ⟨k, 0, none⟩) n c) ∧ w.cell? ⟨g, 1, none⟩ = some (.int .i64 (i : Int)) ∧ w.cell? ⟨g, 2, none⟩ = some (.int .i64 d) ∧ w.cell? ⟨g, 7, none⟩ = some (.int .i64 (e : Int)) ∧ (∀ j, w.frozen? ⟨g, j, none⟩ = false) ∧ i + l.length = n ∧ n ≤ c ∧ c ≤ maxLen ∧ k ≠ g ∧ k < w.heap.size ∧
    w.cell? ⟨k, i * 5, none⟩ = some (.int .i64 (hd l).tk.k) ∧ w.cell? ⟨k, i * 5 + 1, none⟩ = some (.string (bs (hd l).tk.t)) ∧ w.cell? ⟨k, i * 5 + 2, none⟩ = some (.int .u64 (hd l).tk.n) ∧
    w.cell? ⟨k, i * 5 + 3, none⟩ = some (.int .i64 (hd l).p.1) ∧ w.cell? ⟨k, i * 5 + 4, none⟩ = some (.int .i64 (hd l).p.2) := by
  obtain ⟨L, i, a, c, vc, vs, vx, vt, hh, h1, h2, h3, h4, h5⟩ := h.mem
  have h0 := h.wf.hd
  have hp := h.wf.pos
  have hl : L[i]? = some (hd l) := by rw [← h3, List.getElem?_drop, Nat.add_zero] at h0; rw [h0, h3]
  have hil : i + l.length = L.length := by rw [← h3, List.length_drop] at hp ⊢; omega
  obtain ⟨k, rfl, h6, c0, c1, c2, c3, c4⟩ := h4 i _ hl
  refine ⟨i, L.length, k, c, ?_, ?_, ?_, ?_, fun j => ?_, hil, h1, h2, h6.1.ne, h6.1.lt, c0, c1, c2, c3, c4⟩
  · rw [cell_of_row _ _ _ _ _ (0, 0) hh]; rfl
  · rw [cell_of_row _ _ _ _ _ (0, 0) hh]; rfl
  · rw [cell_of_row _ _ _ _ _ (0, 0) hh]; rfl
  · rw [cell_of_row _ _ _ _ _ (0, 0) hh]; rfl
  · simp [World.frozen?, hh]
theorem DInv.store (h : DInv X g b w l e d f) {j : Nat} (hj : j ∉ layD.J) (u : Value) {l' : List Tok} {e' : Nat} {d' : Int} (hw : WF l') (hl : l'.length ≤ l.length)
    (hm : ∀ (L : List Tok) (i : Nat) (a : Option Addr) (c : Nat) (vc vs vx vt : Value), L.drop i = l → w.heap[g]? = some (.cells #[.slice a L.length c, .int .i64 (i : Int), .int .i64 d, vc, vs, vx, vt, .int .i64 (e : Int)] layD.pa (0, 0)) →
      ∃ i' : Nat, L.drop i' = l' ∧ (w.setCell ⟨g, j, none⟩ u).heap[g]? = some (.cells #[.slice a L.length c, .int .i64 (i' : Int), .int .i64 d', vc, vs, vx, vt, .int .i64 (e' : Int)] layD.pa (0, 0))) :
    DInv X g b (w.setCell ⟨g, j, none⟩ u) l' e' d' f ∧ St layD g w (w.setCell ⟨g, j, none⟩ u) := by
  have hs : St layD g w (w.setCell ⟨g, j, none⟩ u) := (St.refl _ _ _).own hj _
  refine ⟨?_, hs⟩
  obtain ⟨L, i, a, c, vc, vs, vx, vt, hh, h1, h2, h3, h4, h5⟩ := h.mem
  obtain ⟨i', hi, hm⟩ := hm L i a c vc vs vx vt h3 hh
  have ho : ∀ i, i ≠ g → (w.setCell ⟨g, j, none⟩ u).heap[i]? = w.heap[i]? := fun i hi => Below.heap_setCell _ _ _ _ hi
  exact ⟨hw, ⟨L, i', a, c, vc, vs, vx, vt, hm, h1, h2, hi, h4.stay (hs.pub X),
    ⟨h5.c.stay Crep.kept (hs.pub X) fun i hi => ho i fun e => h5.c.off hh layD_ok.pc (e ▸ hi), h5.s.stay (Srep.kept _) (hs.pub X) fun i hi => ho i fun e => h5.s.off hh layD_ok.ps (e ▸ hi), h5.x.stay Xrep.kept (hs.pub X) fun i hi => ho i fun e => h5.x.off hh layD_ok.px (e ▸ hi), h5.t.stay (Trep.kept _) (hs.pub X) fun i hi => ho i fun e => h5.t.off hh layD_ok.pt (e ▸ hi)⟩⟩,
    by have := h.pot; omega, h.top, h.lc, h.ls, fun k hk => (hs.stay k (h.priv k hk)).2⟩
theorem DInv.next (h : DInv X g b w l e d f) (ht : WF l.tail) {i : Nat} (hc : w.cell? ⟨g, 1, none⟩ = some (.int .i64 (i : Int))) :
    DInv X g (b - 3) (w.setCell ⟨g, 1, none⟩ (.int .i64 ((i : Int) + 1))) l.tail e d f ∧ St layD g w (w.setCell ⟨g, 1, none⟩ (.int .i64 ((i : Int) + 1))) := by
  have hp := h.wf.pos
  have hpot := h.pot
  have htop := h.top
  have htl : l.tail.length = l.length - 1 := List.length_tail
  obtain ⟨k, hs⟩ := h.store (j := 1) (by decide) (.int .i64 ((i : Int) + 1)) (l' := l.tail) (e' := e) (d' := d) ht (by omega) fun L i' a c vc vs vx vt h3 hh => by
    rw [cell_of_row _ _ _ _ _ (0, 0) hh] at hc
    simp only [List.getElem?_toArray, List.getElem?_cons_zero, List.getElem?_cons_succ, Option.some.injEq, Value.int.injEq, true_and] at hc
    refine ⟨i' + 1, by rw [← h3, List.tail_drop], ?_⟩
    rw [cell_set_row hh (by simp), show ((i' + 1 : Nat) : Int) = (i : Int) + 1 from by omega]; rfl
  exact ⟨⟨k.wf, k.mem, by omega, by omega, k.lc, k.ls, k.priv⟩, hs⟩
theorem DInv.fails (h : DInv X g b w l e d f) (e' : Nat) : DInv X g b (w.setCell ⟨g, 7, none⟩ (.int .i64 (e' : Int))) l e' d f ∧ St layD g w (w.setCell ⟨g, 7, none⟩ (.int .i64 (e' : Int))) :=
  h.store (by decide) _ h.wf (Nat.le_refl _) fun L i a c vc vs vx vt h3 hh => ⟨i, h3, by rw [cell_set_row hh (by simp)]; rfl⟩
theorem DInv.deep (h : DInv X g b w l e d f) (d' : Int) : DInv X g b (w.setCell ⟨g, 2, none⟩ (.int .i64 d')) l e d' f ∧ St layD g w (w.setCell ⟨g, 2, none⟩ (.int .i64 d')) :=
  h.store (by decide) _ h.wf (Nat.le_refl _) fun L i a c vc vs vx vt h3 hh => ⟨i, h3, by rw [cell_set_row hh (by simp)]; rfl⟩
theorem DInv.fresh (h : DInv X g b w l e d f) (o : Obj) : Out layD g (w.alloc o) w.heap.size := by
  obtain ⟨L, i, a, c, vc, vs, vx, vt, hh, h1, h2, h3, h4, h5⟩ := h.mem
  have hg := h.lt
  refine ⟨by simp, by omega, fun j hj v hv e => ?_⟩
  rw [(below_box w o).cell (p := ⟨g, j, none⟩) hg, cell_of_row _ _ _ _ _ (0, 0) hh] at hv
  simp only [layD, List.mem_cons, List.mem_nil_iff, or_false] at hj
  rcases hj with rfl | rfl | rfl | rfl <;> simp only [List.getElem?_toArray, List.getElem?_cons_succ, List.getElem?_cons_zero, Option.some.injEq] at hv <;> subst hv
  · have := h5.c.lt _ e; omega
  · have := h5.s.lt _ e; omega
  · have := h5.x.lt _ e; omega
  · have := h5.t.lt _ e; omega
theorem DInv.pubNew (h : DInv X g b w l e d f) (o : Obj) : Pub X layD g (w.alloc o) w.heap.size := ⟨h.fresh o, fun hx => Nat.lt_irrefl _ (h.priv _ hx).lt⟩
theorem DInv.pushX {w0 w1 : World} {v' vx : Value} (h : DInv X g b w l e d f) (hb : b < 9000000) (hv : w.cell? ⟨g, 5, none⟩ = some vx) (hB : Below w.heap.size w w0) (y : XM) {c : List Value} (hc : c.length = 5) (hy : Xrep (Pub X layD g w) w c y) {cs : List (List Value)}
    (hown : w1.ownsRow 0 layD.ex 5 v' (f.g.xs.length + 1) (cs.flatten ++ c)) (hcs : cs.length = f.g.xs.length) (hcl : ∀ c ∈ cs, c.length = 5) (hrep : ∀ (i : Nat) c x, cs[i]? = some c → f.g.xs[i]? = some x → Xrep (Pub X layD g w) w c x)
    (hgrow : w0.grownBy w1 vx.ownBlock) (hat : v'.ownBlock = vx.ownBlock ∨ v'.ownBlock = some w0.heap.size) :
    DInv X g (b + 1) (w1.setCell ⟨g, 5, none⟩ v') l e d (f.setG (f.g.addX y)) ∧ St layD g w (w1.setCell ⟨g, 5, none⟩ v') := by
  obtain ⟨L, i, a, c', vc, vs, vx', vt, hh, h1, h2, h3, h4, h5⟩ := h.mem
  have hv2 := hv
  rw [cell_of_row _ _ _ _ _ (0, 0) hh] at hv2
  simp only [List.getElem?_toArray, List.getElem?_cons_succ, List.getElem?_cons_zero, Option.some.injEq] at hv2
  subst hv2
  obtain ⟨hs, hf, he⟩ := h5.pushX layD_ok hh (by decide) hv hB y hc hy hown hcs hcl hrep hgrow hat
  refine ⟨⟨h.wf, ⟨L, i, a, c', vc, vs, v', vt, ?_, h1, h2, h3, h4.stay (hs.pub X), hf⟩, by have := h.pot; simp only [FM.setG, GM.addX, List.length_append, List.length_singleton]; omega, hb, h.lc, h.ls, fun k hk => (hs.stay k (h.priv k hk)).2⟩, hs, fun i hi => (World.cell?_of_block (a := ⟨g, i, none⟩) he).trans (World.cell?_setCell_other _ _ _ _ (by intro e; simp only [Addr.mk.injEq] at e; simp only [layD, List.mem_cons, List.mem_nil_iff, or_false] at hi; omega))⟩
  rw [he, cell_set_row hh (by simp)]
  rfl
theorem DInv.pushT {w0 w1 : World} {v' vx : Value} (h : DInv X g b w l e d f) (hb : b < 9000000) (hv : w.cell? ⟨g, 6, none⟩ = some vx) (hB : Below w.heap.size w w0) (y : TM) {c : List Value} (hc : c.length = 8) (hy : Trep layD (Pub X layD g w) w c y) {cs : List (List Value)}
    (hown : w1.ownsRow 0 layD.ty 8 v' (f.g.ts.length + 1) (cs.flatten ++ c)) (hcs : cs.length = f.g.ts.length) (hcl : ∀ c ∈ cs, c.length = 8) (hrep : ∀ (i : Nat) c x, cs[i]? = some c → f.g.ts[i]? = some x → Trep layD (Pub X layD g w) w c x)
    (hgrow : w0.grownBy w1 vx.ownBlock) (hat : v'.ownBlock = vx.ownBlock ∨ v'.ownBlock = some w0.heap.size) :
    DInv X g (b + 1) (w1.setCell ⟨g, 6, none⟩ v') l e d (f.setG (f.g.addT y)) ∧ St layD g w (w1.setCell ⟨g, 6, none⟩ v') := by
  obtain ⟨L, i, a, c', vc, vs, vx', vt, hh, h1, h2, h3, h4, h5⟩ := h.mem
  have hv2 := hv
  rw [cell_of_row _ _ _ _ _ (0, 0) hh] at hv2
  simp only [List.getElem?_toArray, List.getElem?_cons_succ, List.getElem?_cons_zero, Option.some.injEq] at hv2
  subst hv2
  obtain ⟨hs, hf, he⟩ := h5.pushT layD_ok hh (by decide) hv hB y hc hy hown hcs hcl hrep hgrow hat
  refine ⟨⟨h.wf, ⟨L, i, a, c', vc, vs, vx', v', ?_, h1, h2, h3, h4.stay (hs.pub X), hf⟩, by have := h.pot; simp only [FM.setG, GM.addT, List.length_append, List.length_singleton]; omega, hb, h.lc, h.ls, fun k hk => (hs.stay k (h.priv k hk)).2⟩, hs, fun i hi => (World.cell?_of_block (a := ⟨g, i, none⟩) he).trans (World.cell?_setCell_other _ _ _ _ (by intro e; simp only [Addr.mk.injEq] at e; simp only [layD, List.mem_cons, List.mem_nil_iff, or_false] at hi; omega))⟩
  rw [he, cell_set_row hh (by simp)]
  rfl
end
section
variable {X X' : Nat → Prop} {g b : Nat} {w w' : World} {l : List Tok} {e : Nat} {d : Int} {f : FM}
theorem DInv.move (h : DInv X g b w l e d f) (hrow : ∀ k, k < w.heap.size → ¬ Out layD g w k → w'.heap[k]? = w.heap[k]?) (hs : Stay (Pub X layD g w) (Pub X' layD g w') w w') (hp : ∀ k, X' k → Out layD g w' k) : DInv X' g b w' l e d f := by
  obtain ⟨L, i, a, c, vc, vs, vx, vt, hh, h1, h2, h3, h4, h5⟩ := h.mem
  have hg := h.lt
  have row : ∀ (j : Nat) (v : Value), j ∈ layD.J → #[Value.slice a L.length c, .int .i64 (i : Int), .int .i64 d, vc, vs, vx, vt, .int .i64 (e : Int)][j]? = some v → ∀ k, v.ownBlock = some k → k < w.heap.size → w'.heap[k]? = w.heap[k]? := fun j v hj hv k hk hl =>
    hrow k hl fun ho => ho.row j hj v (by rw [cell_of_row _ _ _ _ _ (0, 0) hh]; exact hv) hk
  exact ⟨h.wf, ⟨L, i, a, c, vc, vs, vx, vt, (hrow g hg fun ho => ho.ne rfl).trans hh, h1, h2, h3, h4.stay hs,
    ⟨h5.c.stay Crep.kept hs fun k hk => row 3 _ (by decide) rfl k hk (h5.c.lt k hk), h5.s.stay (Srep.kept _) hs fun k hk => row 4 _ (by decide) rfl k hk (h5.s.lt k hk), h5.x.stay Xrep.kept hs fun k hk => row 5 _ (by decide) rfl k hk (h5.x.lt k hk), h5.t.stay (Trep.kept _) hs fun k hk => row 6 _ (by decide) rfl k hk (h5.t.lt k hk)⟩⟩, h.pot, h.top, h.lc, h.ls, hp⟩
theorem OutD.of {k : Nat} (h : Out layD g w k) (hs : w.heap.size ≤ w'.heap.size) (hg : w'.heap[g]? = w.heap[g]?) : Out layD g w' k :=
  ⟨Nat.lt_of_lt_of_le h.lt hs, h.ne, fun j hj v hv => h.row j hj v (by rw [← World.cell?_of_block (a := ⟨g, j, none⟩) hg]; exact hv)⟩
theorem DInv.local (h : DInv X g b w l e d f) {k : Nat} (hk : X k) (o : Nat) (u : Value) : DInv X g b (w.setCell ⟨k, o, none⟩ u) l e d f := by
  have ho := h.priv k hk
  have hg : (w.setCell ⟨k, o, none⟩ u).heap[g]? = w.heap[g]? := Below.heap_setCell _ _ _ _ fun e => ho.ne e.symm
  have hz : w.heap.size ≤ (w.setCell ⟨k, o, none⟩ u).heap.size := by simp [World.setCell]
  refine h.move (fun i _ hi => Below.heap_setCell _ _ _ _ fun e => hi (by rw [show i = k from e]; exact ho)) (fun i hi => ⟨Below.heap_setCell _ _ _ _ fun e => hi.2 (by rw [show i = k from e]; exact hk), OutD.of hi.1 hz hg, hi.2⟩) fun i hi => OutD.of (h.priv i hi) hz hg
theorem DInv.hide (h : DInv X g b w l e d f) (o : Obj) : DInv (wth X w.heap.size) g b (w.alloc o) l e d f := by
  have hb := below_box w o
  have hg : (w.alloc o).heap[g]? = w.heap[g]? := hb.block g h.lt
  refine h.move (fun i hi _ => hb.block i hi) (fun i hi => ⟨hb.block i hi.1.lt, OutD.of hi.1 hb.size hg, fun e => e.elim hi.2 fun e => by have := hi.1.lt; omega⟩) fun i hi => hi.elim (fun e => OutD.of (h.priv i e) hb.size hg) fun e => by rw [e]; exact h.fresh o
theorem DInv.weak (h : DInv X g b w l e d f) (hX : ∀ k, X' k → X k) : DInv X' g b w l e d f :=
  h.move (fun _ _ _ => rfl) (fun i hi => ⟨rfl, hi.1, fun e => hi.2 (hX i e)⟩) fun i hi => h.priv i (hX i hi)
theorem DInv.grow {v v' : Value} (h : DInv (wthV X v) g b w l e d f) (hgrow : w.grownBy w' v.ownBlock) (hat : v'.ownBlock = v.ownBlock ∨ v'.ownBlock = some w.heap.size) (hlt : ∀ k, v'.ownBlock = some k → k < w'.heap.size) : DInv (wthV X v') g b w' l e d f := by
  have hv : ∀ k, v.ownBlock = some k → Out layD g w k := fun k hk => h.priv k (.inr hk)
  have hg : w'.heap[g]? = w.heap[g]? := hgrow.block g h.lt fun e => (hv g e.symm).ne rfl
  have fresh : Out layD g (w.alloc (.cells #[] 0)) w.heap.size := h.fresh _
  refine h.move (fun i hi ho => hgrow.block i hi fun e => ho (hv i e.symm)) (fun i hi => ⟨hgrow.block i hi.1.lt fun e => hi.2 (.inr e.symm), OutD.of hi.1 hgrow.size hg, fun e => e.elim (fun e => hi.2 (.inl e)) fun e => ?_⟩) fun i hi => hi.elim (fun e => OutD.of (h.priv i (.inl e)) hgrow.size hg) fun e => ?_
  · rcases hat with hat | hat
    · rw [hat] at e; exact hi.2 (.inr e)
    · rw [hat, Option.some.injEq] at e; have := hi.1.lt; omega
  · rcases hat with hat | hat
    · rw [hat] at e; exact OutD.of (hv i e) hgrow.size hg
    · have hl := hlt i e
      rw [hat, Option.some.injEq] at e
      subst e
      refine ⟨hl, fresh.ne, fun j hj u hu => fresh.row j hj u ?_⟩
      rw [(below_box w _).cell (p := ⟨g, j, none⟩) h.lt, ← hu]
      exact (World.cell?_of_block (a := ⟨g, j, none⟩) hg).symm
theorem DInv.own {k : Nat} (h : DInv X g b w l e d f) (hk : X k) (hS : St layD g w w') : w'.heap[k]? = w.heap[k]? := (hS.stay k (h.priv k hk)).1
end
def PR.rest {α : Type} : PR α → List Tok
  | .ok _ l => l
  | .bad l _ => l
def PR.err {α : Type} : PR α → Nat
  | .ok _ _ => 0
  | .bad _ e => e
def DT {β : Type} (X : Nat → Prop) (g m b c d : Nat) (w : World) (r : PR β) (F : β → FM) : Prop :=
  match r with
  | .ok a l => DInv X g b w l 0 (d : Int) (F a) ∧ l.length ≤ m ∧ d ≤ 32 ∧ b ≤ c ∧ c ≤ 9000000
  | .bad l x => x ≠ 0 ∧ ∃ d' f', DInv X g c w l x d' f'
section
variable {β γ : Type} {X : Nat → Prop} {g m b c d : Nat} {w w' : World} {r : PR β} {F : β → FM}
theorem DT.inv (h : DT X g m b c d w r F) : ∃ b' d' f', DInv X g b' w r.rest r.err d' f' := by
  cases r with
  | ok a l => exact ⟨_, _, _, h.1⟩
  | bad l x => obtain ⟨_, d', f', h⟩ := h; exact ⟨_, _, _, h⟩
theorem DT.lt (h : DT X g m b c d w r F) : g < w.heap.size := by
  obtain ⟨_, _, _, h⟩ := h.inv
  exact h.lt
theorem DT.below (h : DT X g m b c d w r F) (hb : Below w.heap.size w w') : DT X g m b c d w' r F := by
  cases r with
  | ok a l => exact ⟨h.1.below hb, h.2⟩
  | bad l x => obtain ⟨h0, d', f', h⟩ := h; exact ⟨h0, d', f', h.below hb⟩
theorem DT.mono {m' b' c' : Nat} (h : DT X g m b c d w r F) (hm : m ≤ m') (hb : b ≤ b') (hc : c ≤ c') (hbc : b' ≤ c') (ht : c' ≤ 9000000) : DT X g m' b' c' d w r F := by
  cases r with
  | ok a l => obtain ⟨h1, h2, h3, h4, h5⟩ := h; exact ⟨h1.mono hb (by omega), by omega, h3, hbc, ht⟩
  | bad l x => obtain ⟨h0, d', f', h⟩ := h; exact ⟨h0, d', f', h.mono hc ht⟩
theorem DT.map {r' : PR γ} {F' : γ → FM} (h : DT X g m b c d w r F) (φ : β → γ) (e : r' = r.bind fun a l => .ok (φ a) l) (hF : ∀ a l, r = .ok a l → F' (φ a) = F a) : DT X g m b c d w r' F' := by
  subst e
  cases r with
  | ok a l => have := hF a l rfl; show DInv _ _ _ _ _ _ _ (F' (φ a)) ∧ _; rw [this]; exact h
  | bad l x => exact h
theorem DT.all {X' : Nat → Prop} (h : DT X g m b c d w r F) (k : ∀ b l e d f, DInv X g b w l e d f → DInv X' g b w' l e d f) : DT X' g m b c d w' r F := by
  cases r with
  | ok a l => exact ⟨k _ _ _ _ _ h.1, h.2⟩
  | bad l x => obtain ⟨h0, d', f', h⟩ := h; exact ⟨h0, d', f', k _ _ _ _ _ h⟩
theorem DT.local (h : DT X g m b c d w r F) {k : Nat} (hk : X k) (o : Nat) (u : Value) : DT X g m b c d (w.setCell ⟨k, o, none⟩ u) r F := h.all fun _ _ _ _ _ h => h.local hk o u
theorem DT.hide (h : DT X g m b c d w r F) (o : Obj) : DT (wth X w.heap.size) g m b c d (w.alloc o) r F := h.all fun _ _ _ _ _ h => h.hide o
theorem DT.weak {X' : Nat → Prop} (h : DT X g m b c d w r F) (hX : ∀ k, X' k → X k) : DT X' g m b c d w r F := h.all fun _ _ _ _ _ h => h.weak hX
theorem DT.bare {k : Nat} (h : DT (wth X k) g m b c d w r F) : DT X g m b c d w r F := h.weak fun _ e => .inl e
theorem DT.bareV {v : Value} (h : DT (wthV X v) g m b c d w r F) : DT X g m b c d w r F := h.weak fun _ e => .inl e
theorem DT.nilV (h : DT X g m b c d w r F) (n k : Nat) : DT (wthV X (.slice none n k)) g m b c d w r F := h.weak fun _ e => e.elim id fun e => by cases e
theorem DT.grow {v v' : Value} (h : DT (wthV X v) g m b c d w r F) (hgrow : w.grownBy w' v.ownBlock) (hat : v'.ownBlock = v.ownBlock ∨ v'.ownBlock = some w.heap.size) (hlt : ∀ k, v'.ownBlock = some k → k < w'.heap.size) : DT (wthV X v') g m b c d w' r F := h.all fun _ _ _ _ _ h => h.grow hgrow hat hlt
theorem DT.own {k : Nat} (h : DT X g m b c d w r F) (hk : X k) (hS : St layD g w w') : w'.heap[k]? = w.heap[k]? := by
  obtain ⟨_, _, _, h⟩ := h.inv
  exact h.own hk hS
theorem DT.ok {l : List Tok} {f : FM} (h : DInv X g b w l 0 (d : Int) f) (hd : d ≤ 32) (hm : l.length ≤ m) (hb : b ≤ c) (hc : c ≤ 9000000) : DT X g m b c d w (.ok () l : PR Unit) fun _ => f := ⟨h, hm, hd, hb, hc⟩
end
theorem keep_ok {β γ : Type} {r : PR β} {q : β → List Tok → PR γ} {p : β} {l : List Tok} (h : (r.bind fun a l => (q a l).bind fun _ l => .ok a l) = .ok p l) : ∃ l1, r = .ok p l1 := by
  cases r with
  | bad l x => cases h
  | ok a l1 =>
    rw [PR.bind_ok] at h
    cases hq : q a l1 with
    | bad l2 x => rw [hq] at h; cases h
    | ok y l2 => rw [hq] at h; cases h; exact ⟨_, rfl⟩
theorem pair_ok {β γ : Type} {r : PR β} {q : β → List Tok → PR γ} {p : β × γ} {l : List Tok} (h : (r.bind fun a l => (q a l).bind fun y l => .ok (a, y) l) = .ok p l) : ∃ l1, r = .ok p.1 l1 ∧ q p.1 l1 = .ok p.2 l := by
  cases r with
  | bad l x => cases h
  | ok a l1 =>
    rw [PR.bind_ok] at h
    cases hq : q a l1 with
    | bad l2 x => rw [hq] at h; cases h
    | ok y l2 => rw [hq] at h; cases h; exact ⟨_, rfl, hq⟩
end Go.Proofs.YthcdohggffpopaaGreatDoor
