/- Contracts of layer 6: the first token, by the document. -/
import Derived.Test.YtioddoojjmeknaaDoorLexD
import Derived.Deep.CutBlock
namespace Go.Proofs.YtioddoojjmeknaaDoor
open Go.ChangeShapes Go.WideShapes Go.ChangeAt Go.RowKit
set_option linter.unusedVariables false

set_option maxRecDepth 100000 in
theorem refOne_any (s : ByteArray) (hs : s.size ≤ 140737488355328) (h0 : 0 < s.size) (w : World) :
    Calls Tryd.prog 22 #[.string s] w fun e w' => e = .returned (.tuple #[tkV (firstL s.data.toList).1 0 0, .int .i64 (firstL s.data.toList).2]) ∧ Below w.heap.size w w' := by
  go_enter Tryd.func22, Tryd.ntmps22
  go_upto_block 0 with fail
  go_cut [4] (fun s4 wx => ∃ n : Nat, s4 = .int .i64 n ∧ n ≤ s.size ∧ Hid (runL s.data.toList = s.data.toList.take n) ∧ wx = w.alloc (.cells #[.int .i64 0, .string ⟨#[]⟩, .int .u64 0, .int .i64 0, .int .i64 0] 38))
  case first =>
    go_wp2_with fail
    go_loop [4] (fun i => ∃ k : Nat, k ≤ s.size ∧ i = .int .i64 k ∧ Hid (runL s.data.toList = s.data.toList.take k ++ runL (s.data.toList.drop k))) (fun i => s.size - (intOf i).toNat)
    case atStart => exact ⟨0, by omega, rfl, Lib.hid (by simp)⟩
    case round =>
      obtain ⟨k, hk, rfl, H⟩ := hrel
      by_cases hlt : k < s.size
      · have HD := Lib.hid (drop_byte s hlt)
        have HT := Lib.hid (take_byte s hlt)
        generalize hc : s[k] = c at HD HT
        have HY : Hid (isW c = true → runL s.data.toList = s.data.toList.take (k + 1) ++ runL (s.data.toList.drop (k + 1))) := Lib.hid fun h => by rw [H.out, HD.out, HT.out, runL_yes h]; simp
        have HN : Hid (isW c = false → runL s.data.toList = s.data.toList.take k) := Lib.hid fun h => by rw [H.out, HD.out, runL_no h]; simp
        have c1 := fun w => refLetter_any c w
        have c2 := fun w => refDigit_any c w
        cases h1 : isL c <;> cases h2 : isD c
        all_goals rw [h1] at c1; rw [h2] at c2
        all_goals have C1 := Lib.hid c1; have C2 := Lib.hid c2; have HW := Lib.hid (isW_of c h1 h2); clear c1 c2 h1 h2
        all_goals go_wp2_with (first | (go_at_call 24; refine (C1.out _).mono ?_; rintro e w' ⟨rfl, rfl⟩) | (go_at_call 23; refine (C2.out _).mono ?_; rintro e w' ⟨rfl, rfl⟩))
        · go_meet
          exact ⟨k, rfl, hk, Lib.hid (HN.out HW.out), rfl⟩
        all_goals
          go_round
          case rel => exact ⟨k + 1, by omega, by go_num, Lib.hid (HY.out HW.out)⟩
          case measure => simp [intOf]; omega
      · obtain rfl : k = s.size := by omega
        go_wp2_with fail
        go_meet
        refine ⟨s.size, rfl, hk, Lib.hid ?_, rfl⟩
        have := H.out
        rw [drop_end, runL_nil, List.append_nil] at this
        exact this
  case rest =>
    obtain ⟨n, rfl, hn, HR, rfl⟩ := hcut
    have hne : s.data.toList ≠ [] := fun e => by have := size_list s; rw [e, List.length_nil] at this; omega
    have hd0 := drop_byte s h0
    rw [List.drop_zero] at hd0
    by_cases hn0 : n = 0
    · subst hn0
      have hr0 : runL s.data.toList = [] := by rw [HR.out, List.take_zero]
      have hf : firstL s.data.toList = if signL s.data.toList = [] then (tk0, 4) else (⟨2, signL s.data.toList, 0⟩, 0) := by
        unfold firstL
        rw [if_neg hne, if_neg (by rw [hr0]; exact fun h => h rfl)]
      have c := fun w => refSign_any s hs h0 w
      have hp := signL_prefix s.data.toList
      have hl := hp.length_le
      have HS := size_list s
      have HP := Lib.hid (List.prefix_iff_eq_take.1 hp)
      by_cases hz : signL s.data.toList = []
      · rw [if_pos hz] at hf
        rw [hz] at c
        have C := Lib.hid c
        have HF := Lib.hid hf
        clear c hf hz hl HP hp hne hd0 hr0
        go_wp2_with (go_at_call 42; refine (C.out _).mono ?_; rintro e w' ⟨rfl, hb⟩; obtain ⟨hc, hfz⟩ := bcell hb)
        refine bodyPost_ret (v := .tuple #[.agg #[.int .i64 0, .string ⟨#[]⟩, .int .u64 0, .int .i64 0, .int .i64 0], .int .i64 4]) (by simp [results, Tryd.results22, go_sem, hc]) rfl ⟨by rw [HF.out]; rfl, set5 (chain (below_box _ _) (Nat.le_refl _) hb) (Nat.le_refl _) _ _ _ _ _⟩
      · rw [if_neg hz] at hf
        have hpos : 0 < (signL s.data.toList).length := List.length_pos_iff.2 hz
        generalize hm : (signL s.data.toList).length = m at c hl hpos HP
        have hms : m ≤ s.size := by omega
        have HF := Lib.hid hf
        have C := Lib.hid c
        clear c hf hz hl hp hne hd0 hr0 hm HS
        go_wp2_with (go_at_call 42; refine (C.out _).mono ?_; rintro e w' ⟨rfl, hb⟩; obtain ⟨hc, hfz⟩ := bcell hb)
        refine bodyPost_ret (v := .tuple #[.agg #[.int .i64 2, .string (s.extract 0 m), .int .u64 0, .int .i64 0, .int .i64 0], .int .i64 0]) (by simp [results, Tryd.results22, go_sem, hc]) rfl ⟨?_, set5 (chain (below_box _ _) (Nat.le_refl _) hb) (Nat.le_refl _) _ _ _ _ _⟩
        rw [HF.out, extract_bs, List.drop_zero, ← HP.out]
        rfl
    · have hr1 : runL s.data.toList ≠ [] := fun e => by
        have := HR.out
        rw [e] at this
        have h2 := congrArg List.length this
        rw [List.length_nil, List.length_take, ← size_list] at h2
        omega
      have hf : firstL s.data.toList = wnL (runL s.data.toList) := by
        unfold firstL
        rw [if_neg hne, if_pos hr1]
      have ex : (s.extract 0 n).data.toList = runL s.data.toList := by rw [extract_bs, bs_list, List.drop_zero, HR.out]
      have hsz : (s.extract 0 n).size = n := by rw [size_list, ex, HR.out, List.length_take, ← size_list]; omega
      have hh : (runL s.data.toList).headD 0 = s[0] := by
        rw [HR.out, hd0]
        obtain ⟨m, rfl⟩ : ∃ m, n = m + 1 := ⟨n - 1, by omega⟩
        rfl
      have cd := fun w => refDigit_any s[0] w
      have i1 : (0 : Int) < n := by omega
      cases hd : isD s[0]
      · rw [hd] at cd
        have CD := Lib.hid cd
        by_cases h32 : 32 < n
        · have HF : Hid (firstL s.data.toList = (tk0, 7)) := Lib.hid (by
            rw [hf, wnL, if_neg (by rw [hh, hd]; decide), if_pos (by rw [← ex, ← size_list, hsz]; exact h32)])
          clear cd hf hr1 hne hd0 ex hsz hh hd
          go_wp2_with (go_at_call 23; refine (CD.out _).mono ?_; rintro e w' ⟨rfl, rfl⟩)
          exact bodyPost_ret (v := .tuple #[.agg #[.int .i64 0, .string ⟨#[]⟩, .int .u64 0, .int .i64 0, .int .i64 0], .int .i64 7]) (by simp [results, Tryd.results22, go_sem]) rfl ⟨by rw [HF.out]; rfl, below_box _ _⟩
        · have HF : Hid (firstL s.data.toList = (⟨0, runL s.data.toList, 0⟩, 0)) := Lib.hid (by
            rw [hf, wnL, if_neg (by rw [hh, hd]; decide), if_neg (by rw [← ex, ← size_list, hsz]; exact h32)])
          have HE := Lib.hid ex
          clear cd hf hr1 hne hd0 ex hsz hh hd
          go_wp2_with (go_at_call 23; refine (CD.out _).mono ?_; rintro e w' ⟨rfl, rfl⟩)
          refine bodyPost_ret (v := .tuple #[.agg #[.int .i64 0, .string (s.extract 0 n), .int .u64 0, .int .i64 0, .int .i64 0], .int .i64 0]) (by simp [results, Tryd.results22, go_sem]) rfl ⟨?_, below_box _ _⟩
          rw [HF.out, ← HE.out]
          rfl
      · rw [hd] at cd
        have CD := Lib.hid cd
        have c := fun w => refNumber_any (s.extract 0 n) (by omega) (by omega) (by rw [ex, hh]; exact hd) w
        rw [ex, ← hf] at c
        unfold tkV at c
        obtain ⟨q, HQ⟩ : ∃ q, Hid (firstL s.data.toList = q) := ⟨_, Lib.hid rfl⟩
        rw [HQ.out] at c
        clear cd hf hr1 hne hd0 ex hh hd HR hsz
        obtain ⟨⟨k, t, v⟩, e⟩ := q
        have C := Lib.hid c
        clear c
        simp only at C
        go_wp2_with (first | (go_at_call 23; refine (CD.out _).mono ?_; rintro e w' ⟨rfl, rfl⟩) | (go_at_call 41; refine (C.out _).mono ?_; rintro e w' ⟨rfl, hb⟩; obtain ⟨hc, hfz⟩ := bcell hb))
        exact bodyPost_ret (v := .tuple #[.agg #[.int .i64 k, .string (bs t), .int .u64 v, .int .i64 0, .int .i64 0], .int .i64 e]) (by simp [results, Tryd.results22, go_sem, hc]) rfl ⟨by rw [HQ.out]; rfl, set5 (chain (below_box _ _) (Nat.le_refl _) hb) (Nat.le_refl _) _ _ _ _ _⟩
end Go.Proofs.YtioddoojjmeknaaDoor
