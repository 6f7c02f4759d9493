/- Contracts of layer 6: runs; words. · Contracts of layer 6: numbers, by the document. -/
import Derived.Test.YtomimkgaelkaoaaGreatDoorC13LexA
import Derived.Deep.DeepCutAuto
set_option linter.unusedVariables false
set_option linter.unusedSimpArgs false
namespace Go.Proofs.YtomimkgaelkaoaaGreatDoor
open Go.Lib (hid)
open Go.ChangeShapes Go.WideShapes Go.ChangeAt Go.RowKit
theorem byteAt (s : ByteArray) {k : Nat} (h : k < s.size) : s.data.toList[k]? = some s[k] := by
 rw [List.getElem?_eq_getElem (by simpa using h)]; rfl
theorem drop_byte (s : ByteArray) {k : Nat} (h : k < s.size) : s.data.toList.drop k = s[k] :: s.data.toList.drop (k + 1) := by
 rw [List.drop_eq_getElem_cons (by simpa using h)]; rfl
theorem take_byte (s : ByteArray) {k : Nat} (h : k < s.size) : s.data.toList.take (k + 1) = s.data.toList.take k ++ [s[k]] := by
 rw [List.take_add_one, byteAt s h]; rfl
theorem drop_end (s : ByteArray) : s.data.toList.drop s.size = [] := List.drop_eq_nil_of_le (by simp)
theorem extract_bs (s : ByteArray) (i j : Nat) : s.extract i j = bs ((s.data.toList.take j).drop i) := by
 apply ByteArray.ext
 rw [ByteArray.data_extract]
 apply Array.ext'
 rw [Array.toList_extract, List.extract_eq_take_drop]
 unfold bs
 simp [List.drop_take]
theorem retS {x y : ByteArray} (h : x = y) : Ending.returned (.string x) = .returned (.string y) := by rw [h]
theorem runL_yes {c : UInt8} {r : List UInt8} (h : isW c = true) : runL (c :: r) = c :: runL r := by unfold runL; rw [List.takeWhile_cons, if_pos h]
theorem runL_no {c : UInt8} {r : List UInt8} (h : isW c = false) : runL (c :: r) = [] := by unfold runL; rw [List.takeWhile_cons, if_neg (by rw [h]; decide)]
theorem runL_nil : runL [] = [] := rfl
theorem isW_of (c : UInt8) {x y : Bool} (h1 : isL c = x) (h2 : isD c = y) : isW c = (x || y) := by unfold isW; rw [h1, h2]
theorem run_any (s : ByteArray) (hs : s.size ≤ 140737488355328) (w : World) :
  Calls Tryz.prog 120 #[.string s] w fun e w' => e = .returned (.string (bs (runL s.data.toList))) ∧ w' = w := by
 go_enter Tryz.func120, Tryz.ntmps120
 go_wp2
 go_loop [3] (fun i => ∃ k : Nat, k ≤ s.size ∧ i = .int .i64 k ∧ Hid (runL s.data.toList = s.data.toList.take k ++ runL (s.data.toList.drop k))) (fun i => s.size - (intOf i).toNat)
 case atStart => exact ⟨0, by omega, rfl, hid (by simp)⟩
 case round =>
  obtain ⟨k, hk, rfl, H⟩ := hrel
  by_cases hlt : k < s.size
  ·have HD := hid (drop_byte s hlt)
   have HT := hid (take_byte s hlt)
   generalize hc : s[k] = c at HD HT
   have HY : Hid (isW c = true → runL s.data.toList = s.data.toList.take (k + 1) ++ runL (s.data.toList.drop (k + 1))) := hid fun h => by rw [H.out, HD.out, HT.out, runL_yes h]; simp
   have HN : Hid (isW c = false → runL s.data.toList = s.data.toList.take k) := hid fun h => by rw [H.out, HD.out, runL_no h]; simp
   have c1 := isLetter_any c w
   have c2 := isDigit_any c w
   cases h1 : isL c <;> cases h2 : isD c
   all_goals rw [h1] at c1; rw [h2] at c2
   all_goals have C1 := hid c1; have C2 := hid c2; have HW := hid (isW_of c h1 h2); clear c1 c2 h1 h2
   all_goals go_wp2_with (first | (go_at_call 175; refine C1.out.mono ?_; rintro e w' ⟨rfl, rfl⟩) | (go_at_call 176; refine C2.out.mono ?_; rintro e w' ⟨rfl, rfl⟩))
   ·go_ret
    exact ⟨retS (by rw [HN.out HW.out, extract_bs, List.drop_zero]), rfl⟩
   all_goals exact ⟨⟨k + 1, by omega, by go_num, hid (HY.out HW.out)⟩, by simp [intOf]; omega⟩
  ·obtain rfl : k = s.size := by omega
   go_wp2
   go_ret
   refine ⟨retS ?_, rfl⟩
   have := H.out
   rw [drop_end, runL_nil, List.append_nil, List.take_of_length_le (by simp)] at this
   rw [this, bs_of]
end Go.Proofs.YtomimkgaelkaoaaGreatDoor
namespace Go.Proofs.YtomimkgaelkaoaaGreatDoor
open Go.Lib (hid)
open Go.ChangeShapes Go.WideShapes Go.ChangeAt Go.RowKit
theorem valA_le {b : Nat} (hb : 1 ≤ b) : ∀ (l : List UInt8) (n : Nat), n ≤ valA b n l
 | [], n => Nat.le_refl _
 | c :: r, n => by
  have := valA_le hb r (n * b + dv c)
  have h : n ≤ n * b := Nat.le_mul_of_pos_right _ hb
  unfold valA
  omega
def numV (b : Nat) (l : List UInt8) : Nat × Nat := if 18446744073709551616 ≤ valA b 0 l then (0, 5) else (valA b 0 l, 0)
theorem numV_big {b : Nat} {l : List UInt8} (h : 18446744073709551616 ≤ valA b 0 l) : numV b l = (0, 5) := by unfold numV; rw [if_pos h]
theorem numV_small {b : Nat} {l : List UInt8} (h : valA b 0 l < 18446744073709551616) : numV b l = (valA b 0 l, 0) := by unfold numV; rw [if_neg (by omega)]
theorem numV_two (b : Nat) (l : List UInt8) : (∃ n : Nat, numV b l = (n, 0)) ∨ numV b l = (0, 5) := by
 by_cases h : 18446744073709551616 ≤ valA b 0 l
 ·exact .inr (numV_big h)
 ·exact .inl ⟨_, numV_small (by omega)⟩
theorem dv_lt {c : UInt8} (h : isX c = true) : dv c < 16 := by
 unfold isX at h
 simp only [decide_eq_true_eq] at h
 unfold dv
 split <;> (try split) <;> omega
theorem numB_ok {b : Nat} {p : UInt8 → Bool} {ds : List UInt8} (h1 : ds ≠ []) (h2 : ds.all p = true) : numB b p ds = numV b ds := by
 unfold numB numV
 rw [if_neg (by simp [h1, h2])]
theorem numB_no {b : Nat} {p : UInt8 → Bool} {ds : List UInt8} (h : ds = [] ∨ ds.all p = false) : numB b p ds = (0, 4) := by
 unfold numB
 rw [if_pos h]
def numT (r : List UInt8) (v : Nat × Nat) : Tk × Nat := if v.2 = 0 then (⟨1, r, v.1⟩, 0) else (tk0, v.2)
theorem wnL_num {r : List UInt8} (h : isD (r.headD 0) = true) : wnL r = numT r (numberL r) := by unfold wnL numT; rw [if_pos h]
def hex0 (l : List UInt8) : Bool := [48, 120].isPrefixOf l
theorem numberL_hex {l : List UInt8} (h : hex0 l = true) : numberL l = numB 16 isX (l.drop 2) := by unfold numberL; exact if_pos h
theorem numberL_dec {l : List UInt8} (h : hex0 l = false) : numberL l = numB 10 isD l := by unfold numberL; exact if_neg (by unfold hex0 at h; rw [h]; decide)
end Go.Proofs.YtomimkgaelkaoaaGreatDoor
