/- The walk of the law ParseEnds. -/
import Derived.Test.YtcdbdfhikbfbpaaGreatDoorParWk
import Derived.Test.YtcdbdfhikbfbpaaGreatDoorParSim
import Derived.Test.YtcdbdfhikbfbpaaGreatDoorParLx
import Derived.Test.YtcdbdfhikbfbpaaGreatDoorLexO
import Derived.Deep.QuietTactic
import Derived.Deep.RegionWith
namespace Go.Proofs.YtcdbdfhikbfbpaaGreatDoor
open Go.ChangeShapes Go.WideShapes Go.ChangeAt Go.RowKit
set_option linter.unusedVariables false

theorem ends_math {s : List UInt8} {ts : List Tok} (h : lexL s = .ok ts) (hp : frE (parseL s) = 0) (k : Nat) (hk : k < ts.length) :
    (16384 < (joinL (ts.take k)).length ∧ parseL (joinL (ts.take k)) = .bad (1, 1) 7) ∨
    ((joinL (ts.take k)).length ≤ 16384 ∧ (frE (parseL (joinL (ts.take k))) = 0 ∨ parseL (joinL (ts.take k)) = .bad (1, (joinL (ts.take k)).length + 1) 4)) := by
  have hT := lexL_take h k hk
  split at hT
  · rename_i hl
    refine .inl ⟨hl, ?_⟩
    unfold parseL
    rw [hT]
  · rename_i hl
    refine .inr ⟨by omega, ?_⟩
    obtain ⟨us, q, h1, h2, h3, h4⟩ := hT


    have hok : ∃ a l, fileL (fuel ts) [] [] ts = .ok a l := by
      unfold parseL at hp
      rw [h] at hp
      dsimp only at hp
      cases hf : fileP ts with
      | ok a l => exact ⟨a, l, hf⟩
      | bad l e =>
        exfalso
        have hg := good_fileL (fuel ts) [] [] ts (lexL_wf h)
        rw [show fileL (fuel ts) [] [] ts = .bad l e from hf] at hg
        rw [show fileP ts = .bad l e from hf] at hp
        exact hg.2.2 hp
    obtain ⟨a, l, hok⟩ := hok
    have hus : (us ++ q).map (·.tk) = ts.map (·.tk) := by
      conv => rhs; rw [h3]
      rw [List.map_append, List.map_append, h2]
    obtain ⟨l', hok'⟩ := file_same_ok hus.symm hok
    have hlen : us.length = k := by
      have := congrArg List.length h2
      simpa [List.length_take, Nat.min_eq_left (Nat.le_of_lt hk)] using this
    have hy : ∀ y ∈ us, y.tk.k ≠ 3 := fun y hy => by
      have : y.tk ∈ us.map (·.tk) := List.mem_map_of_mem hy
      rw [h2] at this
      obtain ⟨z, hz, e⟩ := List.mem_map.1 this
      rw [← e]; exact h4 z hz
    generalize hj : joinL (ts.take k) = t at h1 ⊢
    rcases sim_file (e := ⟨tkEnd, (1, t.length + 1)⟩) (t := q) rfl (fuel (us ++ [⟨tkEnd, (1, t.length + 1)⟩])) (fuel ts) [] [] us hy (by unfold fuel; rw [List.length_append]; omega) (by unfold fuel; omega) with e | ⟨a', e⟩ | ⟨l2, k2, e⟩
    · refine .inr ?_
      unfold parseL fileP
      rw [h1]
      simp only
      rw [e]; rfl
    · refine .inl ?_
      unfold parseL fileP
      rw [h1]
      simp only
      rw [e]; rfl
    · rw [hok'] at e; cases e
theorem lex_cap {s : ByteArray} {r : LR} (h : lexL s.data.toList = r) (w : World) (hE : Env w) :
    Calls Tryz.prog 23 #[.string s] w fun e w' => ∃ a c, e = .returned (.tuple #[.slice a r.toks.length c, .agg #[.int .i64 r.pos.1, .int .i64 r.pos.2], .int .i64 r.err]) ∧ r.toks.length ≤ c ∧ c ≤ maxLen ∧ TkS w' a r.toks ∧ Below w.heap.size w w' := by
  subst h
  refine (Lex_any s w hE).mono ?_
  rintro e w' ⟨v, rfl, hT, hb⟩
  obtain ⟨a, c, rfl⟩ := hT.shape
  rcases id hT.2 with ⟨h1, h2⟩ | ⟨g, cap, cur, hv, hg, hh, q1, q2, _⟩
  · simp only [Value.slice.injEq] at h1
    obtain ⟨rfl, h1, rfl⟩ := h1
    exact ⟨_, _, rfl, by omega, by unfold maxLen; omega, hT.rd, hb⟩
  · simp only [Value.slice.injEq] at hv
    obtain ⟨rfl, -, rfl⟩ := hv
    exact ⟨_, _, rfl, q1, q2, hT.rd, hb⟩
theorem TkS.take {w : World} {a : Option Addr} {l : List Tok} (h : TkS w a l) (k : Nat) : TkS w a (l.take k) := by
  intro i t ht
  rw [List.getElem?_take] at ht
  split at ht
  · exact h i t ht
  · cases ht
theorem sumL_take : ∀ (l : List Tok) (k : Nat), sumL (l.take k) ≤ sumL l
  | [], k => by simp
  | t :: r, 0 => by simp [sumL]
  | t :: r, k + 1 => by
    have := sumL_take r k
    rw [List.take_succ_cons]
    simp only [sumL]; omega
theorem parse_bad {s : ByteArray} {p : Ps} {x : Nat} (h : parseL s.data.toList = .bad p x) (w : World) (hE : Env w) (hK : KEnv (fun b => b < w.heap.size) w) :
    Calls Tryz.prog 10 #[.string s] w fun e w' => e = .returned (.tuple #[.pointer none, .agg #[.int .i64 (p.1 : Nat), .int .i64 (p.2 : Nat)], .int .i64 (x : Nat)]) ∧ Below w.heap.size w w' := by
  refine (Parse_any s w hE hK).mono ?_
  rintro e w' ⟨hp, hb⟩
  rw [h] at hp
  exact ⟨hp.1, hb⟩
set_option maxHeartbeats 4000000 in
set_option maxRecDepth 100000 in
theorem ParseEnds_walk (s : ByteArray) (n : Int) (w : World) (ws : s.size ≤ maxLen) (n0 : 0 ≤ n) (n1 : n ≤ 65535) (hE : Env w) (hK : KEnv (fun b => b < w.heap.size) w) :
    Calls Tryz.prog 9 #[.string s, .int .u16 n] w fun e w' => e = .returned (.bool true) ∧ Below w.heap.size w w' := by
  have HE := Lib.hid hE
  have HK := Lib.hid hK
  have HW := Lib.hid fun w hE hK => wakes_any w hE hK
  obtain ⟨x, hx⟩ : ∃ x, frE (parseL s.data.toList) = x := ⟨_, rfl⟩
  have CP := Lib.hid fun w hE hK => parse_err s hx w hE hK
  clear hE hK
  by_cases hno : (lexL s.data.toList).err ≠ 0 ∨ x ≠ 0
  · have CL := Lib.hid fun w hE => lex_cap (s := s) rfl w hE
    generalize lexL s.data.toList = r at CL hno
    obtain ⟨y, hy⟩ : ∃ y, r.err = y := ⟨_, rfl⟩
    rw [hy] at CL hno
    generalize r.toks = l at CL
    obtain ⟨⟨p1, p2⟩, hp⟩ : ∃ p, r.pos = p := ⟨_, rfl⟩
    rw [hp] at CL
    have hb : (((y : Int) != 0) || ((x : Int) != 0)) = true := by
      rcases hno with h | h
      · simp; omega
      · simp; omega
    have hyx : ((y : Int) != 0) = true ∨ (((y : Int) != 0) = false ∧ ((x : Int) != 0) = true) := by
      cases h : ((y : Int) != 0)
      · rw [h] at hb; exact .inr ⟨rfl, hb⟩
      · exact .inl rfl
    clear hb hno
    rcases hyx with hq | ⟨hq, hq2⟩
    all_goals
      go_enter Tryz.func9, Tryz.ntmps9
      go_wp2_with (first | (go_at_call 23; refine (CL.out _ HE.out).mono ?_; rintro e w1 ⟨a, c, rfl, -, -, -, hb⟩; have B1 := Lib.hid (chain hb (Nat.le_refl _) (below_box w1 (.cells #[.int .i64 p1, .int .i64 p2] 24)))) | (go_at_call 10; refine (CP.out _ (HE.out.below B1.out) (HK.out.low B1.out)).mono ?_; rintro e w2 ⟨v, q1, q2, rfl, hb2⟩; have B2 := Lib.hid (chain (chain B1.out (Nat.le_refl _) hb2) (Nat.le_refl _) (below_box w2 (.cells #[.int .i64 q1, .int .i64 q2] 24)))) | (go_at_call 12; first | (have fresh := B3; clear fresh; refine (HW.out _ (HE.out.below B3.out) (HK.out.low B3.out)).mono ?_; rintro e w4 ⟨rfl, hb4⟩; have B4 := Lib.hid (chain B3.out (Nat.le_refl _) hb4)) | (refine (HW.out _ (HE.out.below B2.out) (HK.out.low B2.out)).mono ?_; rintro e w3 ⟨rfl, hb3⟩; have B3 := Lib.hid (chain B2.out (Nat.le_refl _) hb3))))
      go_ret
      exact ⟨rfl, B4.out⟩
  · rw [not_or, Decidable.not_not, Decidable.not_not] at hno
    obtain ⟨hl0, rfl⟩ := hno
    cases hl : lexL s.data.toList with
    | bad p e =>
      rw [hl] at hl0
      exact absurd hl0 (lexL_bad_at hl).2
    | ok ts =>
      have hAll := lexL_all hl
      have hpos : 0 < ts.length := (lexL_wf hl).pos
      obtain ⟨k, hk⟩ : ∃ k : Nat, n % (ts.length : Int) = k := ⟨(n % (ts.length : Int)).toNat, by have := Int.emod_nonneg n (b := ts.length) (by omega); omega⟩
      have hkl : k < ts.length := by have := Int.emod_lt_of_pos n (b := ts.length) (by omega); omega
      have hw1 : IntKind.i64.wrap n = n := IntWalk.i64_in _ (by omega)
      have ht1 : n.tmod (ts.length : Int) = (k : Int) := by rw [Int.tmod_eq_emod_of_nonneg (by omega)]; exact hk
      have hjl : (joinL (ts.take k)).length ≤ 40000 := by
        have h1 := join_len (ts.take k)
        have h2 := sumL_take ts k
        have h3 : (ts.take k).length ≤ ts.length := by rw [List.length_take]; omega
        omega
      have hm := ends_math hl hx k hkl
      have CL := Lib.hid fun w hE => lex_cap hl w hE
      have CL := Lib.hid (show ∀ w, Env w → Calls Tryz.prog 23 #[.string s] w (fun e w' => ∃ a c, e = .returned (.tuple #[.slice a ts.length c, .agg #[.int .i64 0, .int .i64 0], .int .i64 0]) ∧ ts.length ≤ c ∧ c ≤ maxLen ∧ TkS w' a ts ∧ Below w.heap.size w w') from CL.out)
      have CJ := Lib.hid fun a c w h => Join_any a c (ts.take k) w h (by rw [List.length_take]; omega) (by omega)
      have hlk : (ts.take k).length = k := by rw [List.length_take]; omega
      rw [hlk] at CJ
      generalize hjj : joinL (ts.take k) = j at hm hjl CJ
      obtain ⟨T, hT⟩ : ∃ T, T = bs j := ⟨_, rfl⟩
      have hTs : T.size = j.length := by rw [hT]; rfl
      have hTl : T.data.toList = j := by rw [hT]; rfl
      rw [← hT] at CJ
      rw [← hTl, ← size_list] at hm
      rw [← hTs] at hjl
      have hll : ts.length ≤ 16385 := hAll.1
      have hpos2 : (0 : Int) < (ts.length : Int) := by omega
      have hne : ¬ (ts.length : Int) = 0 := by omega
      have hkI : (k : Int) ≤ (ts.length : Int) := by omega
      clear hT hTs hTl hjj hlk hk hAll hl hl0 hx
      rcases hm with ⟨g1, g2⟩ | ⟨g1, g2 | g2⟩
      · have C2 := Lib.hid fun w hE hK => parse_err T (x := 7) (by rw [g2]; rfl) w hE hK
        have g3 : (16384 : Int) < (T.size : Int) := by omega
        clear g2
        go_enter Tryz.func9, Tryz.ntmps9
        go_wp2_with (first | (go_at_call 23; refine (CL.out _ HE.out).mono ?_; rintro e w1 ⟨a, c, rfl, hc1, hc2, hS, hb⟩; unfold maxLen at hc2; have B1 := Lib.hid (chain hb (Nat.le_refl _) (below_box w1 (.cells #[.int .i64 0, .int .i64 0] 24))); have S1 := Lib.hid ((hS.take k).below (below_box w1 (.cells #[.int .i64 0, .int .i64 0] 24))); clear hS hb) | (go_at_call 12; refine (HW.out _ (HE.out.below B2.out) (HK.out.low B2.out)).mono ?_; rintro e w3 ⟨rfl, hb3⟩; have B3 := Lib.hid (chain B2.out (Nat.le_refl _) hb3); have S3 := Lib.hid (S2.out.below hb3); clear hb3) | (go_at_call 24; refine (CJ.out a c _ S3.out).mono ?_; rintro e w4 ⟨rfl, hb4⟩; have B4 := Lib.hid (chain B3.out (Nat.le_refl _) hb4); clear hb4) | (go_at_call 10; first | (have fresh := B4; clear fresh; refine (C2.out _ (HE.out.below B4.out) (HK.out.low B4.out)).mono ?_; rintro e w5 ⟨v2, q3, q4, rfl, hb5⟩; have B5 := Lib.hid (chain (chain B4.out (Nat.le_refl _) hb5) (Nat.le_refl _) (below_box w5 (.cells #[.int .i64 q3, .int .i64 q4] 24))); clear hb5) | (refine (CP.out _ (HE.out.below B1.out) (HK.out.low B1.out)).mono ?_; rintro e w2 ⟨v, q1, q2, rfl, hb2⟩; have B2 := Lib.hid (chain (chain B1.out (Nat.le_refl _) hb2) (Nat.le_refl _) (below_box w2 (.cells #[.int .i64 q1, .int .i64 q2] 24))); have S2 := Lib.hid ((S1.out.below hb2).below (below_box w2 (.cells #[.int .i64 q1, .int .i64 q2] 24))); clear hb2)))
        go_ret
        exact ⟨rfl, B5.out⟩
      · have C2 := Lib.hid fun w hE hK => parse_err T g2 w hE hK
        have g3 : ¬ (16384 : Int) < (T.size : Int) := by omega
        clear g2
        go_enter Tryz.func9, Tryz.ntmps9
        go_wp2_with (first | (go_at_call 23; refine (CL.out _ HE.out).mono ?_; rintro e w1 ⟨a, c, rfl, hc1, hc2, hS, hb⟩; unfold maxLen at hc2; have B1 := Lib.hid (chain hb (Nat.le_refl _) (below_box w1 (.cells #[.int .i64 0, .int .i64 0] 24))); have S1 := Lib.hid ((hS.take k).below (below_box w1 (.cells #[.int .i64 0, .int .i64 0] 24))); clear hS hb) | (go_at_call 12; refine (HW.out _ (HE.out.below B2.out) (HK.out.low B2.out)).mono ?_; rintro e w3 ⟨rfl, hb3⟩; have B3 := Lib.hid (chain B2.out (Nat.le_refl _) hb3); have S3 := Lib.hid (S2.out.below hb3); clear hb3) | (go_at_call 24; refine (CJ.out a c _ S3.out).mono ?_; rintro e w4 ⟨rfl, hb4⟩; have B4 := Lib.hid (chain B3.out (Nat.le_refl _) hb4); clear hb4) | (go_at_call 10; first | (have fresh := B4; clear fresh; refine (C2.out _ (HE.out.below B4.out) (HK.out.low B4.out)).mono ?_; rintro e w5 ⟨v2, q3, q4, rfl, hb5⟩; have B5 := Lib.hid (chain (chain B4.out (Nat.le_refl _) hb5) (Nat.le_refl _) (below_box w5 (.cells #[.int .i64 q3, .int .i64 q4] 24))); clear hb5) | (refine (CP.out _ (HE.out.below B1.out) (HK.out.low B1.out)).mono ?_; rintro e w2 ⟨v, q1, q2, rfl, hb2⟩; have B2 := Lib.hid (chain (chain B1.out (Nat.le_refl _) hb2) (Nat.le_refl _) (below_box w2 (.cells #[.int .i64 q1, .int .i64 q2] 24))); have S2 := Lib.hid ((S1.out.below hb2).below (below_box w2 (.cells #[.int .i64 q1, .int .i64 q2] 24))); clear hb2)))
        go_ret
        exact ⟨rfl, B5.out⟩
      · have C2 := Lib.hid fun w hE hK => parse_bad g2 w hE hK
        have C2 := Lib.hid (show ∀ w, Env w → KEnv (fun b => b < w.heap.size) w → Calls Tryz.prog 10 #[.string T] w (fun e w' => e = .returned (.tuple #[.pointer none, .agg #[.int .i64 1, .int .i64 (T.size + 1 : Nat)], .int .i64 4]) ∧ Below w.heap.size w w') from C2.out)
        have g3 : ¬ (16384 : Int) < (T.size : Int) := by omega
        have g4 : IntKind.i64.wrap ((T.size : Int) + 1) = ((T.size + 1 : Nat) : Int) := by rw [IntWalk.i64_in _ (by omega)]; omega
        clear g2
        go_enter Tryz.func9, Tryz.ntmps9
        go_wp2_with (first | (go_at_call 23; refine (CL.out _ HE.out).mono ?_; rintro e w1 ⟨a, c, rfl, hc1, hc2, hS, hb⟩; unfold maxLen at hc2; have B1 := Lib.hid (chain hb (Nat.le_refl _) (below_box w1 (.cells #[.int .i64 0, .int .i64 0] 24))); have S1 := Lib.hid ((hS.take k).below (below_box w1 (.cells #[.int .i64 0, .int .i64 0] 24))); clear hS hb) | (go_at_call 12; refine (HW.out _ (HE.out.below B2.out) (HK.out.low B2.out)).mono ?_; rintro e w3 ⟨rfl, hb3⟩; have B3 := Lib.hid (chain B2.out (Nat.le_refl _) hb3); have S3 := Lib.hid (S2.out.below hb3); clear hb3) | (go_at_call 24; refine (CJ.out a c _ S3.out).mono ?_; rintro e w4 ⟨rfl, hb4⟩; have B4 := Lib.hid (chain B3.out (Nat.le_refl _) hb4); clear hb4) | (go_at_call 10; first | (have fresh := B4; clear fresh; refine (C2.out _ (HE.out.below B4.out) (HK.out.low B4.out)).mono ?_; rintro e w5 ⟨rfl, hb5⟩; have B5 := Lib.hid (chain (chain B4.out (Nat.le_refl _) hb5) (Nat.le_refl _) (below_box w5 (.cells #[.int .i64 1, .int .i64 (T.size + 1 : Nat)] 24))); clear hb5) | (refine (CP.out _ (HE.out.below B1.out) (HK.out.low B1.out)).mono ?_; rintro e w2 ⟨v, q1, q2, rfl, hb2⟩; have B2 := Lib.hid (chain (chain B1.out (Nat.le_refl _) hb2) (Nat.le_refl _) (below_box w2 (.cells #[.int .i64 q1, .int .i64 q2] 24))); have S2 := Lib.hid ((S1.out.below hb2).below (below_box w2 (.cells #[.int .i64 q1, .int .i64 q2] 24))); clear hb2)))
        go_ret
        exact ⟨rfl, B5.out⟩
end Go.Proofs.YtcdbdfhikbfbpaaGreatDoor
