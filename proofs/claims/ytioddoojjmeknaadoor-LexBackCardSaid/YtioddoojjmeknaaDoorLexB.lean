/- Contracts of layer 6: runs; words. -/
import Derived.Test.YtioddoojjmeknaaDoorLexA
namespace Go.Proofs.YtioddoojjmeknaaDoor
open Go.ChangeShapes Go.WideShapes Go.ChangeAt Go.RowKit
set_option linter.unusedVariables false

theorem byteAt (s : ByteArray) {k : Nat} (h : k < s.size) : s.data.toList[k]? = some s[k] := by
  rw [List.getElem?_eq_getElem (by simpa using h)]; rfl
theorem drop_byte (s : ByteArray) {k : Nat} (h : k < s.size) : s.data.toList.drop k = s[k] :: s.data.toList.drop (k + 1) := by
  rw [List.drop_eq_getElem_cons (by simpa using h)]; rfl
theorem take_byte (s : ByteArray) {k : Nat} (h : k < s.size) : s.data.toList.take (k + 1) = s.data.toList.take k ++ [s[k]] := by
  rw [List.take_add_one, byteAt s h]; rfl
theorem drop_end (s : ByteArray) : s.data.toList.drop s.size = [] := List.drop_eq_nil_of_le (by simp)
theorem extract_bs (s : ByteArray) (i j : Nat) : s.extract i j = bs ((s.data.toList.take j).drop i) := by
  apply ByteArray.ext
  rw [ByteArray.data_extract]
  apply Array.ext'
  rw [Array.toList_extract, List.extract_eq_take_drop]
  unfold bs
  simp [List.drop_take]
theorem retS {x y : ByteArray} (h : x = y) : Ending.returned (.string x) = .returned (.string y) := by rw [h]

theorem runL_yes {c : UInt8} {r : List UInt8} (h : isW c = true) : runL (c :: r) = c :: runL r := by unfold runL; rw [List.takeWhile_cons, if_pos h]
theorem runL_no {c : UInt8} {r : List UInt8} (h : isW c = false) : runL (c :: r) = [] := by unfold runL; rw [List.takeWhile_cons, if_neg (by rw [h]; decide)]
theorem runL_nil : runL [] = [] := rfl
theorem isW_of (c : UInt8) {x y : Bool} (h1 : isL c = x) (h2 : isD c = y) : isW c = (x || y) := by unfold isW; rw [h1, h2]

theorem run_any (s : ByteArray) (hs : s.size ≤ 140737488355328) (w : World) :
    Calls Tryd.prog 39 #[.string s] w fun e w' => e = .returned (.string (bs (runL s.data.toList))) ∧ w' = w := by
  go_enter Tryd.func39, Tryd.ntmps39
  go_wp2
  go_loop [3] (fun i => ∃ k : Nat, k ≤ s.size ∧ i = .int .i64 k ∧ Hid (runL s.data.toList = s.data.toList.take k ++ runL (s.data.toList.drop k))) (fun i => s.size - (intOf i).toNat)
  case atStart => exact ⟨0, by omega, rfl, Lib.hid (by simp)⟩
  case round =>
    obtain ⟨k, hk, rfl, H⟩ := hrel
    by_cases hlt : k < s.size
    · have HD := Lib.hid (drop_byte s hlt)
      have HT := Lib.hid (take_byte s hlt)
      generalize hc : s[k] = c at HD HT
      have HY : Hid (isW c = true → runL s.data.toList = s.data.toList.take (k + 1) ++ runL (s.data.toList.drop (k + 1))) := Lib.hid fun h => by rw [H.out, HD.out, HT.out, runL_yes h]; simp
      have HN : Hid (isW c = false → runL s.data.toList = s.data.toList.take k) := Lib.hid fun h => by rw [H.out, HD.out, runL_no h]; simp
      have c1 := isLetter_any c w
      have c2 := isDigit_any c w
      cases h1 : isL c <;> cases h2 : isD c
      all_goals rw [h1] at c1; rw [h2] at c2
      all_goals have C1 := Lib.hid c1; have C2 := Lib.hid c2; have HW := Lib.hid (isW_of c h1 h2); clear c1 c2 h1 h2
      all_goals go_wp2_with (first | (go_at_call 54; refine C1.out.mono ?_; rintro e w' ⟨rfl, rfl⟩) | (go_at_call 55; refine C2.out.mono ?_; rintro e w' ⟨rfl, rfl⟩))
      · go_ret
        exact ⟨retS (by rw [HN.out HW.out, extract_bs, List.drop_zero]), rfl⟩
      all_goals exact ⟨⟨k + 1, by omega, by go_num, Lib.hid (HY.out HW.out)⟩, by simp [intOf]; omega⟩
    · obtain rfl : k = s.size := by omega
      go_wp2
      go_ret
      refine ⟨retS ?_, rfl⟩
      have := H.out
      rw [drop_end, runL_nil, List.append_nil, List.take_of_length_le (by simp)] at this
      rw [this, bs_of]

/-- Is the whole a word of at most 32 bytes? -/
def nameL (l : List UInt8) : Bool := !l.isEmpty && decide (l.length ≤ 32) && isL (l.headD 0) && l.all isW
theorem refName_any (s : ByteArray) (hs : s.size ≤ 140737488355328) (w : World) :
    Calls Tryd.prog 12 #[.string s] w fun e w' => e = .returned (.bool (nameL s.data.toList)) ∧ w' = w := by
  go_enter Tryd.func12, Tryd.ntmps12
  by_cases h0 : s.size < 1
  · go_wp2
    go_ret
    exact ⟨retB (by unfold nameL; have : s.data.toList.length = 0 := by have := size_list s; omega
                    rw [List.eq_nil_of_length_eq_zero this]; simp), rfl⟩
  by_cases h32 : 32 < s.size
  · go_wp2
    go_ret
    exact ⟨retB (by unfold nameL; have := size_list s; simp; omega), rfl⟩
  go_wp2
  go_loop [3] (fun i => ∃ k : Nat, k ≤ s.size ∧ i = .int .i64 k ∧ Hid ((s.data.toList.take k).all isW = true ∧ (0 < k → isL (s.data.toList.headD 0) = true))) (fun i => s.size - (intOf i).toNat)
  case atStart => exact ⟨0, by omega, rfl, Lib.hid ⟨by simp, by omega⟩⟩
  case round =>
    obtain ⟨k, hk, rfl, H⟩ := hrel
    by_cases hlt : k < s.size
    · have HT := Lib.hid (take_byte s hlt)
      have HD := Lib.hid (drop_byte s hlt)
      generalize hc : s[k] = c at HT HD
      have HG : Hid (isL c = true ∨ (isD c = true ∧ k ≠ 0) → (s.data.toList.take (k + 1)).all isW = true ∧ (0 < k + 1 → isL (s.data.toList.headD 0) = true)) := Lib.hid fun h => by
        obtain ⟨a1, a2⟩ := H.out
        refine ⟨?_, fun _ => ?_⟩
        · rw [HT.out, List.all_append, a1]
          rcases h with h | h <;> simp [isW, h]
        · by_cases hz : k = 0
          · have := HD.out
            rw [hz, List.drop_zero] at this
            rw [this]
            rcases h with h | h
            · exact h
            · exact absurd hz h.2
          · exact a2 (by omega)
      have HB : Hid (¬ (isL c = true ∨ (isD c = true ∧ k ≠ 0)) → nameL s.data.toList = false) := Lib.hid fun h => by
        refine Bool.eq_false_iff.2 fun e => h ?_
        simp only [nameL, Bool.and_eq_true, List.all_eq_true] at e
        have hw := e.2 c (List.mem_of_mem_drop (i := k) (by rw [HD.out]; simp))
        by_cases hz : k = 0
        · have := HD.out
          rw [hz, List.drop_zero] at this
          have h1 := e.1.2
          rw [this] at h1
          exact .inl h1
        · simp only [isW, Bool.or_eq_true] at hw
          rcases hw with hw | hw
          · exact .inl hw
          · exact .inr ⟨hw, hz⟩
      have c1 := refDigit_any c w
      have c2 := refLetter_any c w
      have dk : ((k : Int) == 0) = decide (k = 0) := by rw [Bool.eq_iff_iff, beq_iff_eq, decide_eq_true_eq]; omega
      cases h2 : isL c <;> cases h1 : isD c <;> by_cases hz : k = 0
      all_goals rw [h1] at c1; rw [h2] at c2
      all_goals have C1 := Lib.hid c1; have C2 := Lib.hid c2; have HL := Lib.hid h2; have HE := Lib.hid h1; clear c1 c2 h1 h2
      all_goals first | rw [decide_eq_true hz] at dk | rw [decide_eq_false hz] at dk
      all_goals have HK := Lib.hid hz; clear hz
      all_goals go_wp2_with (first | (go_at_call 24; refine C2.out.mono ?_; rintro e w' ⟨rfl, rfl⟩) | (go_at_call 23; refine C1.out.mono ?_; rintro e w' ⟨rfl, rfl⟩))
      all_goals try (exact ⟨⟨k + 1, by omega, by go_num, Lib.hid (HG.out (by simp [HL.out, HE.out, HK.out]))⟩, by simp [intOf]; omega⟩)
      all_goals go_ret
      all_goals exact ⟨retB (by rw [HB.out (by simp [HL.out, HE.out, HK.out])]), rfl⟩
    · obtain rfl : k = s.size := by omega
      go_wp2
      go_ret
      refine ⟨retB ?_, rfl⟩
      have := H.out
      rw [List.take_of_length_le (by simp)] at this
      have h1 := size_list s
      have h2 := this.2 (by omega)
      unfold nameL
      have e : s.data.toList.isEmpty = false := by
        cases hh : s.data.toList with
        | nil => rw [hh] at h1; rw [List.length_nil] at h1; omega
        | cons _ _ => rfl
      rw [this.1, h2, e, show decide (s.data.toList.length ≤ 32) = true from decide_eq_true (by omega)]
      exact ⟨fun _ => rfl, fun _ => rfl⟩
end Go.Proofs.YtioddoojjmeknaaDoor
