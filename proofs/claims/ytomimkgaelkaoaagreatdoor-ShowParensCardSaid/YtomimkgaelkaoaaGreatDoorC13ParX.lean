/- Layer 7: words: both sides' Word, Integer, Keyword and Level. · Layer 7: words: the program's Integer and Keyword. -/
import Derived.Test.YtomimkgaelkaoaaGreatDoorC13ParA
import Derived.Deep.DeepMust
set_option linter.unusedVariables false
set_option linter.unusedSimpArgs false
namespace Go.Proofs.YtomimkgaelkaoaaGreatDoor
open Go.Lib (hid)
open Go.ChangeShapes Go.WideShapes Go.ChangeAt Go.RowKit
def wordL (z : Int) (li : Bool) : List UInt8 :=
 if z = 1 then [117, 56] else if z = 2 then (if li = true then [117, 49, 54, 108, 101] else [117, 49, 54, 98, 101]) else if z = 3 then (if li = true then [117, 50, 52, 108, 101] else [117, 50, 52, 98, 101])
 else if z = 4 then (if li = true then [117, 51, 50, 108, 101] else [117, 51, 50, 98, 101]) else if z = 8 then (if li = true then [117, 54, 52, 108, 101] else [117, 54, 52, 98, 101]) else []
theorem Word_any (z : Int) (li : Bool) (w : World) :
  Calls Tryz.prog 94 #[.int .i64 z, .bool li] w fun e w' => e = .returned (.string (bs (wordL z li))) ∧ w = w' := by
 cases li
 all_goals
  go_enter Tryz.func94, Tryz.ntmps94
  go_wp2
 all_goals
  go_ret
  refine ⟨retSt ?_, rfl⟩
  simp only [beq_iff_eq, beq_eq_false_iff_ne] at *
  simp only [wordL, if_pos, *]
  try rfl
theorem level_none {t : List UInt8} (h : ∀ x ∈ opsL, ¬ t = x.1) : levelL t = 0 := by
 unfold levelL
 rw [List.find?_eq_none.2 fun x hx e => h x hx (eq_of_beq e).symm]
 rfl
def intS : List Nat → List UInt8 → Option (Nat × Bool)
 | [], _ => none
 | z :: r, t => if t = wordL z false then some (z, false) else if t = wordL z true then some (z, true) else intS r t
theorem intS_eq (t : List UInt8) : intW t = intS [1, 2, 3, 4, 8] t := by
 by_cases h : t ∈ intsL.map (·.1)
 ·simp only [intsL, List.map_cons, List.map_nil, List.mem_cons, List.mem_nil_iff, or_false] at h
  rcases h with rfl | rfl | rfl | rfl | rfl | rfl | rfl | rfl | rfl <;> decide
 ·have h1 : intW t = none := by
   unfold intW
   rw [Option.map_eq_none_iff, List.find?_eq_none]
   intro x hx e
   exact h (List.mem_map.2 ⟨x, hx, eq_of_beq e⟩)
  rw [h1]
  simp only [intsL, List.map_cons, List.map_nil, List.mem_cons, List.mem_nil_iff, or_false, not_or] at h
  obtain ⟨h0, h1, h2, h3, h4, h5, h6, h7, h8⟩ := h
  simp [intS, wordL, *]
theorem Level_any (t : List UInt8) (w : World) :
  Calls Tryz.prog 93 #[.string (bs t)] w fun e w' => e = .returned (.int .i64 (levelL t : Int)) ∧ w = w' := by
 by_cases h : t ∈ opsL.map (·.1)
 ·simp only [opsL, List.map_cons, List.map_nil, List.mem_cons, List.mem_nil_iff, or_false] at h
  rcases h with rfl | rfl | rfl | rfl | rfl | rfl | rfl | rfl | rfl | rfl | rfl | rfl | rfl | rfl | rfl | rfl | rfl
  ·have hq := fun u => beq_l [124, 124] u
   go_enter Tryz.func93, Tryz.ntmps93
   go_wp2
   go_ret
   exact ⟨rfl, rfl⟩
  ·have hq := fun u => beq_l [38, 38] u
   go_enter Tryz.func93, Tryz.ntmps93
   go_wp2
   go_ret
   exact ⟨rfl, rfl⟩
  ·have hq := fun u => beq_l [61, 61] u
   go_enter Tryz.func93, Tryz.ntmps93
   go_wp2
   go_ret
   exact ⟨rfl, rfl⟩
  ·have hq := fun u => beq_l [33, 61] u
   go_enter Tryz.func93, Tryz.ntmps93
   go_wp2
   go_ret
   exact ⟨rfl, rfl⟩
  ·have hq := fun u => beq_l [60] u
   go_enter Tryz.func93, Tryz.ntmps93
   go_wp2
   go_ret
   exact ⟨rfl, rfl⟩
  ·have hq := fun u => beq_l [60, 61] u
   go_enter Tryz.func93, Tryz.ntmps93
   go_wp2
   go_ret
   exact ⟨rfl, rfl⟩
  ·have hq := fun u => beq_l [62] u
   go_enter Tryz.func93, Tryz.ntmps93
   go_wp2
   go_ret
   exact ⟨rfl, rfl⟩
  ·have hq := fun u => beq_l [62, 61] u
   go_enter Tryz.func93, Tryz.ntmps93
   go_wp2
   go_ret
   exact ⟨rfl, rfl⟩
  ·have hq := fun u => beq_l [124] u
   go_enter Tryz.func93, Tryz.ntmps93
   go_wp2
   go_ret
   exact ⟨rfl, rfl⟩
  ·have hq := fun u => beq_l [38] u
   go_enter Tryz.func93, Tryz.ntmps93
   go_wp2
   go_ret
   exact ⟨rfl, rfl⟩
  ·have hq := fun u => beq_l [60, 60] u
   go_enter Tryz.func93, Tryz.ntmps93
   go_wp2
   go_ret
   exact ⟨rfl, rfl⟩
  ·have hq := fun u => beq_l [62, 62] u
   go_enter Tryz.func93, Tryz.ntmps93
   go_wp2
   go_ret
   exact ⟨rfl, rfl⟩
  ·have hq := fun u => beq_l [43] u
   go_enter Tryz.func93, Tryz.ntmps93
   go_wp2
   go_ret
   exact ⟨rfl, rfl⟩
  ·have hq := fun u => beq_l [45] u
   go_enter Tryz.func93, Tryz.ntmps93
   go_wp2
   go_ret
   exact ⟨rfl, rfl⟩
  ·have hq := fun u => beq_l [42] u
   go_enter Tryz.func93, Tryz.ntmps93
   go_wp2
   go_ret
   exact ⟨rfl, rfl⟩
  ·have hq := fun u => beq_l [47] u
   go_enter Tryz.func93, Tryz.ntmps93
   go_wp2
   go_ret
   exact ⟨rfl, rfl⟩
  ·have hq := fun u => beq_l [37] u
   go_enter Tryz.func93, Tryz.ntmps93
   go_wp2
   go_ret
   exact ⟨rfl, rfl⟩
 ·have hn : levelL t = 0 := level_none fun x hx e => h (List.mem_map.2 ⟨x, hx, e.symm⟩)
  simp only [opsL, List.map_cons, List.map_nil, List.mem_cons, List.mem_nil_iff, or_false, not_or] at h
  obtain ⟨h0, h1, h2, h3, h4, h5, h6, h7, h8, h9, h10, h11, h12, h13, h14, h15, h16⟩ := h
  have q0 : ((bs t).toList == [124, 124]) = false := (beq_l t _).trans (decide_eq_false h0)
  have q1 : ((bs t).toList == [38, 38]) = false := (beq_l t _).trans (decide_eq_false h1)
  have q2 : ((bs t).toList == [61, 61]) = false := (beq_l t _).trans (decide_eq_false h2)
  have q3 : ((bs t).toList == [33, 61]) = false := (beq_l t _).trans (decide_eq_false h3)
  have q4 : ((bs t).toList == [60]) = false := (beq_l t _).trans (decide_eq_false h4)
  have q5 : ((bs t).toList == [60, 61]) = false := (beq_l t _).trans (decide_eq_false h5)
  have q6 : ((bs t).toList == [62]) = false := (beq_l t _).trans (decide_eq_false h6)
  have q7 : ((bs t).toList == [62, 61]) = false := (beq_l t _).trans (decide_eq_false h7)
  have q8 : ((bs t).toList == [124]) = false := (beq_l t _).trans (decide_eq_false h8)
  have q9 : ((bs t).toList == [38]) = false := (beq_l t _).trans (decide_eq_false h9)
  have q10 : ((bs t).toList == [60, 60]) = false := (beq_l t _).trans (decide_eq_false h10)
  have q11 : ((bs t).toList == [62, 62]) = false := (beq_l t _).trans (decide_eq_false h11)
  have q12 : ((bs t).toList == [43]) = false := (beq_l t _).trans (decide_eq_false h12)
  have q13 : ((bs t).toList == [45]) = false := (beq_l t _).trans (decide_eq_false h13)
  have q14 : ((bs t).toList == [42]) = false := (beq_l t _).trans (decide_eq_false h14)
  have q15 : ((bs t).toList == [47]) = false := (beq_l t _).trans (decide_eq_false h15)
  have q16 : ((bs t).toList == [37]) = false := (beq_l t _).trans (decide_eq_false h16)
  clear h0 h1 h2 h3 h4 h5 h6 h7 h8 h9 h10 h11 h12 h13 h14 h15 h16
  rw [hn]
  clear hn
  go_enter Tryz.func93, Tryz.ntmps93
  go_wp2
  go_ret
  exact ⟨rfl, rfl⟩
end Go.Proofs.YtomimkgaelkaoaaGreatDoor
namespace Go.Proofs.YtomimkgaelkaoaaGreatDoor
open Go.Lib (hid)
open Go.ChangeShapes Go.WideShapes Go.ChangeAt Go.RowKit
theorem run_five (A : Array Value) (k : Nat) (v : Value) (hk : k < 5) (h : A[k]? = some v) (W : World) :
  (Instr.index 220 (.agg A) (.int .i64 k)).run Tryz.prog W = .ok v W := by
 have h1 : (0 : Int) ≤ k ∧ (k : Int) < 5 := by omega
 simp [Instr.index, run_underlying Tryz.underlying220, asIntOf, h, hk, go_sem]
theorem run_nineteen (A : Array Value) (k : Nat) (v : Value) (hk : k < 19) (h : A[k]? = some v) (W : World) :
  (Instr.index 132 (.agg A) (.int .i64 k)).run Tryz.prog W = .ok v W := by
 have h1 : (0 : Int) ≤ k ∧ (k : Int) < 19 := by omega
 simp [Instr.index, run_underlying Tryz.underlying132, asIntOf, h, hk, go_sem]
theorem info_five : (Tryz.prog.info? 220).map (·.size) = some 5 := by kernel_rfl
theorem info_nineteen : (Tryz.prog.info? 132).map (·.size) = some 19 := by kernel_rfl
def intR (o : Option (Nat × Bool)) : Value := match o with
 | some (z, li) => .tuple #[.int .i64 (z : Int), .bool li, .bool true]
 | none => .tuple #[.int .i64 0, .bool false, .bool false]
def szL : List Nat := [1, 2, 3, 4, 8]
set_option maxRecDepth 100000 in
theorem Integer_any {P : Nat → Prop} (t : List UInt8) (w : World) (hE : KEnv P w) :
  Calls Tryz.prog 55 #[.string (bs t)] w fun e w' => e = .returned (intR (intW t)) ∧ w = w' := by
 obtain ⟨ts, fr, hsg, -⟩ := hE.sz
 clear hE
 have H0 : Hid (intW t = intS (szL.drop 0) t) := hid (intS_eq t)
 obtain ⟨A, HA⟩ : ∃ A, Hid (A = szA) := ⟨_, hid rfl⟩
 have hat : ∀ j, j < 5 → A[j]? = some (.int .i64 ((szL.getD j 0 : Nat) : Int)) := fun j h => by
  rw [HA.out]
  match j, h with
  | 0, _ => rfl | 1, _ => rfl | 2, _ => rfl | 3, _ => rfl | 4, _ => rfl
 have hsz : (Tryz.prog.info? 220).map (·.size) = some A.size := by rw [HA.out]; exact info_five
 have hstep : ∀ k, k < 5 → intS (szL.drop k) t = if t = wordL (szL.getD k 0 : Nat) false then some (szL.getD k 0, false) else if t = wordL (szL.getD k 0 : Nat) true then some (szL.getD k 0, true) else intS (szL.drop (k + 1)) t := fun k h => by
  match k, h with
  | 0, _ => rfl | 1, _ => rfl | 2, _ => rfl | 3, _ => rfl | 4, _ => rfl
 rw [← HA.out] at hsg
 have HAT := hid hat
 have HSZ := hid hsz
 have HSG := hid hsg
 have HST := hid hstep
 clear hsg hat hsz HA hstep
 go_enter Tryz.func55, Tryz.ntmps55
 go_wp2_with (refine wpList_load_row rfl 220 _ rfl 1 rfl ts A fr _ HSG.out Tryz.underlying220 rfl HSZ.out ?_)
 go_loop [8] (fun i => ∃ k : Nat, k ≤ 5 ∧ i = .int .i64 k ∧ Hid (intW t = intS (szL.drop k) t)) (fun i => 5 - (intOf i).toNat)
 case atStart => exact ⟨0, by omega, rfl, H0⟩
 case round =>
  obtain ⟨k, hk, rfl, H⟩ := hrel
  by_cases hlt : k < 5
  ·obtain ⟨z, hz⟩ : ∃ z, szL.getD k 0 = z := ⟨_, rfl⟩
   have ha := HAT.out k hlt
   have hs := HST.out k hlt
   rw [hz] at ha hs
   have HI := hid (run_five A k (.int .i64 (z : Int)) hlt ha)
   have HS := hid (H.out.trans hs)
   have HW := hid (fun li w => Word_any z li w)
   have b1 := beq_bs t (wordL z false)
   have b2 := beq_bs t (wordL z true)
   clear ha hs hz H H0
   by_cases e1 : t = wordL z false
   ·rw [decide_eq_true e1] at b1
    have HR : Hid (intW t = some (z, false)) := hid (by rw [HS.out, if_pos e1])
    clear b2 e1
    go_wp2_with (first | (go_at_call 94; go_must (refine (HW.out _ _).mono ?_; rintro e w' ⟨rfl, rfl⟩)) | simp only [HI.out])
    exact bodyPost_ret (v := .tuple #[.int .i64 (z : Int), .bool false, .bool true]) (by simp [results, Tryz.results55, go_sem]) rfl ⟨by rw [HR.out]; rfl, rfl⟩
   ·rw [decide_eq_false e1] at b1
    by_cases e2 : t = wordL z true
    ·rw [decide_eq_true e2] at b2
     have HR : Hid (intW t = some (z, true)) := hid (by rw [HS.out, if_neg e1, if_pos e2])
     clear e2 e1
     go_wp2_with (first | (go_at_call 94; go_must (refine (HW.out _ _).mono ?_; rintro e w' ⟨rfl, rfl⟩)) | simp only [HI.out])
     exact bodyPost_ret (v := .tuple #[.int .i64 (z : Int), .bool true, .bool true]) (by simp [results, Tryz.results55, go_sem]) rfl ⟨by rw [HR.out]; rfl, rfl⟩
    ·rw [decide_eq_false e2] at b2
     have HR : Hid (intW t = intS (szL.drop (k + 1)) t) := hid (by rw [HS.out, if_neg e1, if_neg e2])
     clear e2 e1
     go_wp2_with (first | (go_at_call 94; go_must (refine (HW.out _ _).mono ?_; rintro e w' ⟨rfl, rfl⟩)) | simp only [HI.out])
     go_round
     case rel => exact ⟨k + 1, by omega, by go_num, HR⟩
     case measure => simp [intOf]; omega
  ·obtain rfl : k = 5 := by omega
   have HR : Hid (intW t = none) := hid (H.out)
   clear H H0
   go_wp2_with fail
   exact bodyPost_ret (v := .tuple #[.int .i64 0, .bool false, .bool false]) (by simp [results, Tryz.results55, go_sem]) rfl ⟨by rw [HR.out]; rfl, rfl⟩
theorem kw_step {k : Nat} (h : k < 19) (t : List UInt8) : (kwL.drop k).contains t = (decide (t = kwL.getD k []) || (kwL.drop (k + 1)).contains t) := by
 have hk : k < kwL.length := h
 rw [List.drop_eq_getElem_cons hk, List.contains_cons, List.getD_eq_getElem?_getD, List.getElem?_eq_getElem hk, Option.getD_some]
 congr 1
 rw [Bool.eq_iff_iff, beq_iff_eq, decide_eq_true_eq]
set_option maxRecDepth 100000 in
theorem Keyword_any {P : Nat → Prop} (t : List UInt8) (w : World) (hE : KEnv P w) :
  Calls Tryz.prog 19 #[.string (bs t)] w fun e w' => e = .returned (.bool (isKw t)) ∧ w = w' := by
 have HN := hid (Integer_any t w hE)
 obtain ⟨ts, fr, hsg, -⟩ := hE.kw
 clear hE
 obtain ⟨A, HA⟩ : ∃ A, Hid (A = kwA) := ⟨_, hid rfl⟩
 have hat : ∀ j, j < 19 → A[j]? = some (.string (bs (kwL.getD j []))) := fun j h => by
  rw [HA.out]
  have hk : j < kwL.length := h
  unfold kwA
  rw [List.getElem?_toArray, List.getElem?_map, List.getD_eq_getElem?_getD, List.getElem?_eq_getElem hk]
  rfl
 have hsz : (Tryz.prog.info? 132).map (·.size) = some A.size := by rw [HA.out]; exact info_nineteen
 rw [← HA.out] at hsg
 have HAT := hid hat
 have HSZ := hid hsz
 have HSG := hid hsg
 clear hsg hat hsz HA
 go_enter Tryz.func19, Tryz.ntmps19
 go_wp2_with (refine wpList_load_row rfl 132 _ rfl 0 rfl ts A fr _ HSG.out Tryz.underlying132 rfl HSZ.out ?_)
 go_loop [9] (fun i => ∃ k : Nat, k ≤ 19 ∧ i = .int .i64 k ∧ Hid (isKw t = ((kwL.drop k).contains t || (intW t).isSome))) (fun i => 19 - (intOf i).toNat)
 case atStart => exact ⟨0, by omega, rfl, hid rfl⟩
 case round =>
  obtain ⟨k, hk, rfl, H⟩ := hrel
  by_cases hlt : k < 19
  ·obtain ⟨z, hz⟩ : ∃ z, kwL.getD k [] = z := ⟨_, rfl⟩
   have ha := HAT.out k hlt
   have hs := kw_step hlt t
   rw [hz] at ha hs
   have HI := hid (run_nineteen A k (.string (bs z)) hlt ha)
   have HS := hid (H.out)
   rw [hs] at HS
   have b1 := beq_bs t z
   clear ha hs hz H
   by_cases e1 : t = z
   ·rw [decide_eq_true e1] at b1 HS
    have HR : Hid (isKw t = true) := hid (by rw [HS.out]; rfl)
    clear e1 HS
    go_wp2_with (simp only [HI.out])
    go_ret
    exact ⟨retBe HR.out.symm, rfl⟩
   ·rw [decide_eq_false e1] at b1 HS
    clear e1
    go_wp2_with (simp only [HI.out])
    go_round
    case rel => exact ⟨k + 1, by omega, by go_num, hid (by rw [HS.out, Bool.false_or])⟩
    case measure => simp [intOf]; omega
  ·obtain rfl : k = 19 := by omega
   have HR : Hid (isKw t = (intW t).isSome) := hid (H.out)
   clear H
   cases hi : intW t with
   | none =>
    have hn := HN.out
    rw [hi] at hn HR
    simp only [intR] at hn
    have HN2 := hid hn
    clear hn HN hi
    go_wp2_with (go_at_call 55; go_must (refine HN2.out.mono ?_; rintro e w' ⟨rfl, rfl⟩))
    go_ret
    exact ⟨retBe HR.out.symm, rfl⟩
   | some p =>
    obtain ⟨z, li⟩ := p
    have hn := HN.out
    rw [hi] at hn HR
    simp only [intR] at hn
    have HN2 := hid hn
    clear hn HN hi
    go_wp2_with (go_at_call 55; go_must (refine HN2.out.mono ?_; rintro e w' ⟨rfl, rfl⟩))
    go_ret
    exact ⟨retBe HR.out.symm, rfl⟩
end Go.Proofs.YtomimkgaelkaoaaGreatDoor
