/- Contracts of layer 6: the first token, by the program; skipping. -/
import Derived.Test.YtioddoojjmeknaaDoorLexH
namespace Go.Proofs.YtioddoojjmeknaaDoor
open Go.ChangeShapes Go.WideShapes Go.ChangeAt Go.RowKit
set_option linter.unusedVariables false

/-- A token of the program as a value. -/
def tkP (t : Tk) (line col : Int) : Value := .agg #[.int .i64 t.k, .string (bs t.t), .int .u64 t.n, .int .i64 line, .int .i64 col]
theorem wn_any (s : ByteArray) (hs : s.size ≤ 140737488355328) (h0 : 0 < s.size) (w : World) (hE : Env w) :
    Calls Tryd.prog 40 #[.string s] w fun e w' => e = .returned (.tuple #[tkP (wnL s.data.toList).1 0 0, .int .i64 (wnL s.data.toList).2]) ∧ Below w.heap.size w w' := by
  have hd0 := drop_byte s h0
  rw [List.drop_zero] at hd0
  have hh : s.data.toList.headD 0 = s[0] := by rw [hd0]; rfl
  have cd := fun w => isDigit_any s[0] w
  cases hd : isD s[0]
  · rw [hd] at cd
    have CD := Lib.hid cd
    by_cases h32 : 32 < s.size
    · have HF : Hid (wnL s.data.toList = (tk0, 7)) := Lib.hid (by rw [wnL, if_neg (by rw [hh, hd]; decide), if_pos (by rw [← size_list]; exact h32)])
      clear cd hd0 hh hd
      go_enter Tryd.func40, Tryd.ntmps40
      go_wp2_with (go_at_call 55; refine (CD.out _).mono ?_; rintro e w' ⟨rfl, rfl⟩)
      exact bodyPost_ret (v := .tuple #[.agg #[.int .i64 0, .string ⟨#[]⟩, .int .u64 0, .int .i64 0, .int .i64 0], .int .i64 7]) (by simp [results, Tryd.results40, go_sem]) rfl ⟨by rw [HF.out]; rfl, below_box _ _⟩
    · have HF : Hid (wnL s.data.toList = (⟨0, s.data.toList, 0⟩, 0)) := Lib.hid (by rw [wnL, if_neg (by rw [hh, hd]; decide), if_neg (by rw [← size_list]; exact h32)])
      clear cd hd0 hh hd
      go_enter Tryd.func40, Tryd.ntmps40
      go_wp2_with (go_at_call 55; refine (CD.out _).mono ?_; rintro e w' ⟨rfl, rfl⟩)
      exact bodyPost_ret (v := .tuple #[.agg #[.int .i64 0, .string s, .int .u64 0, .int .i64 0, .int .i64 0], .int .i64 0]) (by simp [results, Tryd.results40, go_sem]) rfl ⟨by rw [HF.out]; rfl, below_box _ _⟩
  · rw [hd] at cd
    have CD := Lib.hid cd
    have c := fun w hE => number_any s hs w hE
    have hw : wnL s.data.toList = numT s.data.toList (numberL s.data.toList) := wnL_num (by rw [hh]; exact hd)
    obtain ⟨q, hq⟩ : ∃ q, numberL s.data.toList = q := ⟨_, rfl⟩
    rw [hq] at c hw
    obtain ⟨n, e⟩ := q
    have C := Lib.hid c
    have HE := Lib.hid hE
    clear c hq cd hd0 hh hd hE
    by_cases he : e = 0
    · subst he
      have HW := Lib.hid hw
      have e0 : (((0 : Nat) : Int) != 0) = false := by decide
      clear hw
      go_enter Tryd.func40, Tryd.ntmps40
      go_wp2_with (first | (go_at_call 55; refine (CD.out _).mono ?_; rintro e w' ⟨rfl, rfl⟩) | (go_at_call 56; refine (C.out _ (HE.out.alloc _)).mono ?_; rintro e w' ⟨rfl, hb⟩; obtain ⟨hc, hfz⟩ := bcell hb))
      exact bodyPost_ret (v := .tuple #[.agg #[.int .i64 1, .string s, .int .u64 n, .int .i64 0, .int .i64 0], .int .i64 0]) (by simp [results, Tryd.results40, go_sem, hc]) rfl ⟨by rw [HW.out]; rfl, set5 (chain (below_box _ _) (Nat.le_refl _) hb) (Nat.le_refl _) _ _ _ _ _⟩
    · have HW : Hid (wnL s.data.toList = (tk0, e)) := Lib.hid (by rw [hw]; unfold numT; rw [if_neg he])
      have e0 : ((e : Int) != 0) = true := by simp; omega
      clear hw
      go_enter Tryd.func40, Tryd.ntmps40
      go_wp2_with (first | (go_at_call 55; refine (CD.out _).mono ?_; rintro e w' ⟨rfl, rfl⟩) | (go_at_call 56; refine (C.out _ (HE.out.alloc _)).mono ?_; rintro e w' ⟨rfl, hb⟩; obtain ⟨hc, hfz⟩ := bcell hb))
      exact bodyPost_ret (v := .tuple #[.agg #[.int .i64 0, .string ⟨#[]⟩, .int .u64 0, .int .i64 0, .int .i64 0], .int .i64 e]) (by simp [results, Tryd.results40, go_sem, hc]) rfl ⟨by rw [HW.out]; rfl, set5 (chain (below_box _ _) (Nat.le_refl _) hb) (Nat.le_refl _) _ _ _ _ _⟩

theorem signF_step {k : Nat} (h : k < 29) (l : List UInt8) : signF (sgs.drop k) l = if (sgs.getD k []).isPrefixOf l = true then sgs.getD k [] else signF (sgs.drop (k + 1)) l := by
  have e : sgs.drop k = sgs.getD k [] :: sgs.drop (k + 1) := by
    have hk : k < sgs.length := h
    rw [List.drop_eq_getElem_cons hk, List.getD_eq_getElem?_getD, List.getElem?_eq_getElem hk]; rfl
  rw [e]; rfl
theorem sgs_ne {k : Nat} (h : k < 29) : sgs.getD k [] ≠ [] := by
  have : ∀ k, k < 29 → sgs.getD k [] ≠ [] := by decide
  exact this k h
theorem run_tab (A : Array Value) (k : Nat) (g : ByteArray) (hk : k < 29) (h : A[k]? = some (.string g)) (W : World) :
    (Instr.index 75 (.agg A) (.int .i64 k)).run Tryd.prog W = .ok (.string g) W := by
  have h1 : (0 : Int) ≤ k ∧ (k : Int) < 29 := by omega
  simp [Instr.index, run_underlying Tryd.underlying75, asIntOf, h, hk, go_sem]
theorem info_signs : (Tryd.prog.info? 75).map (·.size) = some 29 := by kernel_rfl

set_option maxRecDepth 100000 in
theorem first_any (s : ByteArray) (hs : s.size ≤ 140737488355328) (w : World) (hE : Env w) :
    Calls Tryd.prog 21 #[.string s] w fun e w' => e = .returned (.tuple #[tkP (firstL s.data.toList).1 0 0, .int .i64 (firstL s.data.toList).2]) ∧ Below w.heap.size w w' := by
  cases he : s.toList.isEmpty
  · have hne : s.data.toList ≠ [] := fun e => by rw [empty_iff, e] at he; cases he
    have cr := fun w => run_any s hs w
    have hle : (runL s.data.toList).length ≤ s.size := (List.takeWhile_prefix isW).length_le
    have hf : firstL s.data.toList = if runL s.data.toList ≠ [] then wnL (runL s.data.toList) else if signL s.data.toList = [] then (tk0, 4) else (⟨2, signL s.data.toList, 0⟩, 0) := by unfold firstL; rw [if_neg hne]
    by_cases hr : runL s.data.toList = []
    · rw [if_neg (by rw [hr]; exact fun h => h rfl)] at hf
      rw [hr] at cr
      have CR := Lib.hid cr
      have HF := Lib.hid hf
      have hemp : (bs []).toList.isEmpty = true := by rw [empty_iff]; rfl
      obtain ⟨ts, fr, hsg⟩ := hE.signs
      have hz0 : 0 < w.heap.size := (Array.getElem?_eq_some_iff.1 hsg).1
      have hsg2 := fun O => (Below.heap_alloc w O _ hz0).trans hsg
      obtain ⟨A, HA⟩ : ∃ A, Hid (A = sgA) := ⟨_, Lib.hid rfl⟩
      have hat : ∀ j, j < 29 → A[j]? = some (.string (bs (sgs.getD j []))) := fun j h => by rw [HA.out]; exact sgA_at h
      have hsz : (Tryd.prog.info? 75).map (·.size) = some A.size := by rw [HA.out, sgA_size]; exact info_signs
      rw [← HA.out] at hsg2
      have HAT := Lib.hid hat
      have HSZ := Lib.hid hsz
      have HSG := Lib.hid hsg2
      clear cr hf hne hle hr hE hsg hz0 hsg2 hat hsz HA
      go_enter Tryd.func21, Tryd.ntmps21
      go_wp2_with (first | (go_at_call 39; refine (CR.out _).mono ?_; rintro e w' ⟨rfl, rfl⟩) | (refine wpList_load_row rfl 75 _ rfl 0 rfl ts A fr _ (HSG.out _) Tryd.underlying75 rfl HSZ.out ?_))
      go_loop [19] (fun i => ∃ k : Nat, k ≤ 29 ∧ i = .int .i64 k ∧ Hid (signL s.data.toList = signF (sgs.drop k) s.data.toList)) (fun i => 29 - (intOf i).toNat)
      case atStart => exact ⟨0, by omega, rfl, Lib.hid rfl⟩
      case round =>
        obtain ⟨k, hk, rfl, H⟩ := hrel
        by_cases hlt : k < 29
        · have ha := HAT.out k hlt
          have hp := hasPrefix_any s (bs (sgs.getD k []))
          have HS := Lib.hid (H.out.trans (signF_step hlt s.data.toList))
          have HN := Lib.hid (sgs_ne hlt)
          rw [bs_list] at hp
          obtain ⟨g, hg⟩ : ∃ g, sgs.getD k [] = g := ⟨_, rfl⟩
          have HI := Lib.hid (run_tab A k (bs g) hlt (by rw [ha, hg]))
          rw [hg] at hp HS HN
          clear ha
          cases hpp : g.isPrefixOf s.data.toList
          all_goals
            rw [hpp] at hp
            have HP := Lib.hid hp
            have HQ := Lib.hid hpp
            clear hp hpp hg H
            go_wp2_with (first | (go_at_call 32; refine (HP.out _).mono ?_; rintro e w' ⟨rfl, rfl⟩) | simp only [HI.out])
          · go_round
            case rel => exact ⟨k + 1, by omega, by go_num, Lib.hid (by rw [HS.out, if_neg (by rw [HQ.out]; decide)])⟩
            case measure => simp [intOf]; omega
          · refine bodyPost_ret (v := .tuple #[.agg #[.int .i64 2, .string (bs g), .int .u64 0, .int .i64 0, .int .i64 0], .int .i64 0]) (by simp [results, Tryd.results21, go_sem]) rfl ⟨?_, below_box _ _⟩
            rw [HF.out, HS.out, if_pos HQ.out, if_neg HN.out]
            rfl
        · obtain rfl : k = 29 := by omega
          have HS : Hid (signL s.data.toList = []) := Lib.hid H.out
          clear H
          go_wp2_with fail
          exact bodyPost_ret (v := .tuple #[.agg #[.int .i64 0, .string ⟨#[]⟩, .int .u64 0, .int .i64 0, .int .i64 0], .int .i64 4]) (by simp [results, Tryd.results21, go_sem]) rfl ⟨by rw [HF.out, HS.out, if_pos rfl]; rfl, below_box _ _⟩
    · rw [if_pos hr] at hf
      have cw := fun w hE => wn_any (bs (runL s.data.toList)) (by rw [bs_size]; omega) (by rw [bs_size]; exact List.length_pos_iff.2 hr) w hE
      rw [bs_list, ← hf] at cw
      have hemp : (bs (runL s.data.toList)).toList.isEmpty = false := by
        rw [empty_iff, bs_list]
        cases hx : runL s.data.toList with
        | nil => exact absurd hx hr
        | cons _ _ => rfl
      obtain ⟨q, HQ⟩ : ∃ q, Hid (firstL s.data.toList = q) := ⟨_, Lib.hid rfl⟩
      rw [HQ.out] at cw
      obtain ⟨⟨k, t, v⟩, e⟩ := q
      simp only [tkP] at cw
      generalize bs (runL s.data.toList) = r at cr cw hemp
      have CR := Lib.hid cr
      have CW := Lib.hid cw
      have HE := Lib.hid hE
      clear cr cw hf hne hle hr hE
      go_enter Tryd.func21, Tryd.ntmps21
      go_wp2_with (first | (go_at_call 39; refine (CR.out _).mono ?_; rintro e w' ⟨rfl, rfl⟩) | (go_at_call 40; refine (CW.out _ (HE.out.alloc _)).mono ?_; rintro e' w' ⟨rfl, hb⟩; obtain ⟨hc, hfz⟩ := bcell hb))
      exact bodyPost_ret (v := .tuple #[.agg #[.int .i64 k, .string (bs t), .int .u64 v, .int .i64 0, .int .i64 0], .int .i64 e]) (by simp [results, Tryd.results21, go_sem, hc]) rfl ⟨by rw [HQ.out]; rfl, set5 (chain (below_box _ _) (Nat.le_refl _) hb) (Nat.le_refl _) _ _ _ _ _⟩
  · have he' : s.data.toList = [] := by rw [empty_iff, List.isEmpty_iff] at he; exact he
    have HF : Hid (firstL s.data.toList = (tkEnd, 0)) := Lib.hid (by rw [he']; rfl)
    clear he'
    go_enter Tryd.func21, Tryd.ntmps21
    go_wp2_with fail
    exact bodyPost_ret (v := .tuple #[.agg #[.int .i64 3, .string ⟨#[]⟩, .int .u64 0, .int .i64 0, .int .i64 0], .int .i64 0]) (by simp [results, Tryd.results21, go_sem]) rfl ⟨by rw [HF.out]; rfl, below_box _ _⟩
end Go.Proofs.YtioddoojjmeknaaDoor
