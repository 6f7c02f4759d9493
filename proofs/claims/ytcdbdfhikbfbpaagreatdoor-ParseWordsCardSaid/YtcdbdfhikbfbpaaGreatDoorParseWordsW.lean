/- The walk of the law ParseWords. -/
import Derived.Test.YtcdbdfhikbfbpaaGreatDoorParWk
import Derived.Test.YtcdbdfhikbfbpaaGreatDoorRefA
import Derived.Test.YtcdbdfhikbfbpaaGreatDoorRefL
import Derived.Deep.QuietTactic
namespace Go.Proofs.YtcdbdfhikbfbpaaGreatDoor
open Go.ChangeShapes Go.WideShapes Go.ChangeAt Go.RowKit
set_option linter.unusedVariables false

/-- What the words of sizes are. -/
def Sz (z : Int) : Prop := z = 1 ∨ z = 2 ∨ z = 3 ∨ z = 4 ∨ z = 8
theorem word_yes (z : Int) (h : Sz z) (li : Bool) : ∃ n : Nat, (n : Int) = z ∧ intW (wordL z li) = some (n, decide (1 < z) && li) ∧ wordL z li ≠ [] := by
  rcases h with rfl | rfl | rfl | rfl | rfl
  · exact ⟨1, rfl, by cases li <;> rfl, by cases li <;> decide⟩
  · exact ⟨2, rfl, by cases li <;> rfl, by cases li <;> decide⟩
  · exact ⟨3, rfl, by cases li <;> rfl, by cases li <;> decide⟩
  · exact ⟨4, rfl, by cases li <;> rfl, by cases li <;> decide⟩
  · exact ⟨8, rfl, by cases li <;> rfl, by cases li <;> decide⟩
theorem word_no (z : Int) (h : ¬ Sz z) (li : Bool) : wordL z li = [] := by
  unfold Sz at h
  unfold wordL
  simp only [not_or] at h
  rw [if_neg h.1, if_neg h.2.1, if_neg h.2.2.1, if_neg h.2.2.2.1, if_neg h.2.2.2.2]
theorem int_form (t : List UInt8) : ∃ (n : Nat) (li q : Bool), intR (intW t) = .tuple #[.int .i64 (n : Int), .bool li, .bool q] ∧ intQ (intW t) = .tuple #[.int .i64 (n : Int), .bool li] ∧ ((q = false ∧ n = 0) ∨ (q = true ∧ 0 < n)) := by
  cases h : intW t with
  | none => exact ⟨0, false, false, rfl, rfl, .inl ⟨rfl, rfl⟩⟩
  | some p => exact ⟨p.1, p.2, true, rfl, rfl, .inr ⟨rfl, intQ_pos h⟩⟩
def Two2 (g : Nat) (x y : Int) (w : World) : Prop := w.heap[g]? = some (.cells #[.int .i64 x, .int .i64 y] 3 (0, 0))
theorem Two2.keep {g : Nat} {x y : Int} {w w' : World} (h : Two2 g x y w) (hb : Below w.heap.size w w') : Two2 g x y w' := (hb.block g (Array.getElem?_eq_some_iff.1 h).1).trans h
theorem Two2.cells {g : Nat} {x y : Int} {w : World} (h : Two2 g x y w) : w.cell? ⟨g, 0, none⟩ = some (.int .i64 x) ∧ w.cell? ⟨g, 1, none⟩ = some (.int .i64 y) := by
  refine ⟨?_, ?_⟩
  all_goals
    rw [cell_of_row _ _ _ _ _ (0, 0) h]
    rfl
def TwoB (g : Nat) (w : World) : Prop := w.heap[g]? = some (.cells #[.bool false, .bool true] 4 (0, 0))
theorem TwoB.keep {g : Nat} {w w' : World} (h : TwoB g w) (hb : Below w.heap.size w w') : TwoB g w' := (hb.block g (Array.getElem?_eq_some_iff.1 h).1).trans h
theorem TwoB.cells {g : Nat} {w : World} (h : TwoB g w) : w.cell? ⟨g, 0, none⟩ = some (.bool false) ∧ w.cell? ⟨g, 1, none⟩ = some (.bool true) := by
  refine ⟨?_, ?_⟩
  all_goals
    rw [cell_of_row _ _ _ _ _ (0, 0) h]
    rfl
set_option maxHeartbeats 4000000 in
set_option maxRecDepth 100000 in
theorem ParseWords_walk (s : ByteArray) (z : Int) (w : World) (ws : s.size ≤ maxLen) (z0 : -9223372036854775808 ≤ z) (z1 : z ≤ 9223372036854775807) (hE : Env w) (hK : KEnv (fun b => b < w.heap.size) w) :
    Calls Tryz.prog 4 #[.string s, .int .i64 z] w fun e w' => e = .returned (.bool true) ∧ Below w.heap.size w w' := by
  obtain ⟨t, rfl⟩ : ∃ t, s = bs t := ⟨s.data.toList, rfl⟩
  have HE := Lib.hid hE
  have HK := Lib.hid hK
  obtain ⟨n, li, q, f1, f2, f3⟩ := int_form t
  have c1 := fun w (h : KEnv (fun b => b < w.heap.size) w) => Integer_any t w h
  rw [f1] at c1
  have c2 := fun w => refInteger_any t w
  rw [f2] at c2
  have CI := Lib.hid c1
  have CQ := Lib.hid c2
  have CK := Lib.hid fun w (h : KEnv (fun b => b < w.heap.size) w) => Keyword_any t w h
  have CJ := Lib.hid fun w => refKeyword_any t w
  have CV := Lib.hid fun w => Level_any t w
  have CU := Lib.hid fun w => refLevel_any t w
  have HW := Lib.hid fun w hE hK => wakes_any w hE hK
  clear hE hK c1 c2 f1 f2
  generalize isKw t = kw at CK CJ
  generalize levelL t = lv at CV CU
  rcases f3 with ⟨rfl, rfl⟩ | ⟨rfl, f3⟩
  all_goals
    go_enter Tryz.func4, Tryz.ntmps4
    go_wp2_with (first | (go_at_call 14; refine (CI.out _ HK.out).mono ?_; rintro e w1 ⟨rfl, rfl⟩) | (go_at_call 15; refine (CQ.out _).mono ?_; rintro e w2 ⟨rfl, hb2⟩; have B2 := Lib.hid hb2; clear hb2) | (go_at_call 16; refine (CK.out _ (HK.out.low B2.out)).mono ?_; rintro e w3 ⟨rfl, rfl⟩) | (go_at_call 17; refine (CJ.out _).mono ?_; rintro e w4 ⟨rfl, hb4⟩; have B4 := Lib.hid (chain B2.out (Nat.le_refl _) hb4); clear hb4) | (go_at_call 18; refine (CV.out _).mono ?_; rintro e w5 ⟨rfl, rfl⟩) | (go_at_call 19; refine (CU.out _).mono ?_; rintro e w6 ⟨rfl, hb6⟩; have B6 := Lib.hid (chain B4.out (Nat.le_refl _) hb6); clear hb6))
    have B7 := Lib.hid (chain B6.out (Nat.le_refl _) (below_box w6 (.cells #[.int .i64 z, .int .i64 (bits BinOp.and IntKind.i64 z 15)] 3)))
    have V7 := Lib.hid (show Two2 w6.heap.size z (bits BinOp.and IntKind.i64 z 15) (w6.alloc (.cells #[.int .i64 z, .int .i64 (bits BinOp.and IntKind.i64 z 15)] 3)) from heap_alloc_new w6 _)
    clear CI CQ CK CJ CV CU B2 B4 B6
    generalize w6.alloc (.cells #[.int .i64 z, .int .i64 (bits BinOp.and IntKind.i64 z 15)] 3) = W at B7 V7 ⊢
    generalize bits BinOp.and IntKind.i64 z 15 = z2 at V7 ⊢
    generalize w6.heap.size = g at V7 ⊢
    go_loopw [65] (fun s65 wr => ∃ j : Nat, s65 = .int .i64 j ∧ j ≤ 2 ∧ Two2 g z z2 wr ∧ Below w.heap.size w wr) (fun s65 _ => 2 - (intOf s65).toNat)
    case atStart => exact ⟨0, rfl, by omega, V7.out, B7.out⟩
    case round =>
      obtain ⟨j, rfl, hj2, hV, hb⟩ := hrel
      have V := Lib.hid hV
      have B := Lib.hid hb
      by_cases hj : j < 2
      · obtain ⟨u, c0⟩ : ∃ u : Int, wr.cell? ⟨g, j, none⟩ = some (.int .i64 u) := by
          obtain ⟨c0, c1⟩ := hV.cells
          have : j = 0 ∨ j = 1 := by omega
          rcases this with rfl | rfl
          · exact ⟨_, c0⟩
          · exact ⟨_, c1⟩
        have hdj : decide ((j : Int) < 2) = true := by simp; omega
        have VB := Lib.hid (show TwoB wr.heap.size (wr.alloc (.cells #[.bool false, .bool true] 4)) from heap_alloc_new wr _)
        have V2 := Lib.hid (V.out.keep (below_box wr (.cells #[.bool false, .bool true] 4)))
        have B2 := Lib.hid (chain B.out (Nat.le_refl _) (below_box wr (.cells #[.bool false, .bool true] 4)))
        clear hV hb V B
        go_wp2_with fail
        clear c0
        generalize wr.alloc (.cells #[.bool false, .bool true] 4) = W2 at VB V2 B2 ⊢
        generalize wr.heap.size = gb at VB ⊢
        have CW := Lib.hid fun li w => Word_any u li w
        go_loopw [71] (fun s71 wr' => ∃ i : Nat, s71 = .int .i64 i ∧ i ≤ 2 ∧ TwoB gb wr' ∧ Two2 g z z2 wr' ∧ Below w.heap.size w wr') (fun s71 _ => 2 - (intOf s71).toNat)
        case atStart => exact ⟨0, rfl, by omega, VB.out, V2.out, B2.out⟩
        case round =>
          obtain ⟨i, rfl, hi2, hVB, hV, hb⟩ := hrel
          have VB' := Lib.hid hVB
          have V' := Lib.hid hV
          have B' := Lib.hid hb
          obtain ⟨b0, b1⟩ := hVB.cells
          clear hVB hV hb
          have h3 : i = 2 ∨ (∃ l : Bool, i = (if l = true then 1 else 0)) := by
            have : i = 0 ∨ i = 1 ∨ i = 2 := by omega
            rcases this with rfl | rfl | rfl
            · exact .inr ⟨false, rfl⟩
            · exact .inr ⟨true, rfl⟩
            · exact .inl rfl
          rcases h3 with rfl | ⟨l, rfl⟩
          · go_wp2_with fail
            go_roundw
            case rel => exact ⟨j + 1, by go_num, by omega, V'.out, B'.out⟩
            case measure => simp [intOf]; omega
          · by_cases hs : Sz u
            · obtain ⟨m, hm, h1, h2⟩ := word_yes u hs l
              have c2 := fun w => refInteger_any (wordL u l) w
              rw [h1] at c2
              have CR := Lib.hid (show ∀ w, Calls Tryz.prog 15 #[.string (bs (wordL u l))] w (fun e w' => e = .returned (.tuple #[.int .i64 (m : Nat), .bool (decide (1 < u) && l)]) ∧ Below w.heap.size w w') from c2)
              have qe := fun v => beq_l (wordL u l) v
              have qf : decide (wordL u l = []) = false := by simp [h2]
              have CX := Lib.hid fun w => CW.out l w
              clear c2 h1 h2 CW
              generalize wordL u l = T at CR CX qe qf
              rcases hs with rfl | rfl | rfl | rfl | rfl
              all_goals
                cases l
                all_goals
                  simp only [Bool.false_eq_true, if_false, if_true] at *
                  go_wp2_with (first | (go_at_call 20; refine (CX.out _).mono ?_; rintro e w8 ⟨rfl, rfl⟩) | (go_at_call 15; refine (CR.out _).mono ?_; rintro e w9 ⟨rfl, hb9⟩))
                  go_roundw
                  case rel => first | exact ⟨1, rfl, by omega, VB'.out.keep hb9, V'.out.keep hb9, chain B'.out (Nat.le_refl _) hb9⟩ | exact ⟨2, rfl, by omega, VB'.out.keep hb9, V'.out.keep hb9, chain B'.out (Nat.le_refl _) hb9⟩
                  case measure => simp [intOf]
            · have hw := word_no u hs l
              have CX := Lib.hid fun w => CW.out l w
              rw [hw] at CX
              have CR := Lib.hid (show ∀ w, Calls Tryz.prog 15 #[.string (bs [])] w (fun e w' => e = .returned (.tuple #[.int .i64 0, .bool false]) ∧ Below w.heap.size w w') from fun w => refInteger_any [] w)
              have qe := fun v => beq_l [] v
              unfold Sz at hs
              simp only [not_or] at hs
              obtain ⟨n1, n2, n3, n4, n8⟩ := hs
              have m1 : (u == 1) = false := by simp [n1]
              have m2 : (u == 2) = false := by simp [n2]
              have m3 : (u == 3) = false := by simp [n3]
              have m4 : (u == 4) = false := by simp [n4]
              have m8 : (u == 8) = false := by simp [n8]
              clear hw CW
              cases l
              all_goals
                simp only [Bool.false_eq_true, if_false, if_true] at *
                go_wp2_with (first | (go_at_call 20; refine (CX.out _).mono ?_; rintro e w8 ⟨rfl, rfl⟩) | (go_at_call 15; refine (CR.out _).mono ?_; rintro e w9 ⟨rfl, hb9⟩))
                go_roundw
                case rel => first | exact ⟨1, rfl, by omega, VB'.out.keep hb9, V'.out.keep hb9, chain B'.out (Nat.le_refl _) hb9⟩ | exact ⟨2, rfl, by omega, VB'.out.keep hb9, V'.out.keep hb9, chain B'.out (Nat.le_refl _) hb9⟩
                case measure => simp [intOf]
      · obtain rfl : j = 2 := by omega
        go_wp2_with (go_at_call 12; refine (HW.out _ (HE.out.below B.out) (HK.out.low B.out)).mono ?_; rintro e w8 ⟨rfl, hb8⟩)
        go_ret
        exact ⟨rfl, chain B.out (Nat.le_refl _) hb8⟩
end Go.Proofs.YtcdbdfhikbfbpaaGreatDoor
