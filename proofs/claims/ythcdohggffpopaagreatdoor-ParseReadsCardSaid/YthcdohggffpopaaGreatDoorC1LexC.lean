/- Contracts of layer 6: runs; words. · Contracts of layer 6: numbers, by the document. -/
import Derived.Test.YthcdohggffpopaaGreatDoorC1LexA
import Derived.Deep.DeepCutAuto
namespace Go.Proofs.YthcdohggffpopaaGreatDoor
open Go.Lib (hid)
open Go.ChangeShapes Go.WideShapes Go.ChangeAt Go.RowKit
theorem byteAt (s : ByteArray) {k : Nat} (h : k < s.size) : s.data.toList[k]? = some s[k] := by
  rw [List.getElem?_eq_getElem (by simpa using h)]; rfl
theorem drop_byte (s : ByteArray) {k : Nat} (h : k < s.size) : s.data.toList.drop k = s[k] :: s.data.toList.drop (k + 1) := by
  rw [List.drop_eq_getElem_cons (by simpa using h)]; rfl
theorem take_byte (s : ByteArray) {k : Nat} (h : k < s.size) : s.data.toList.take (k + 1) = s.data.toList.take k ++ [s[k]] := by
  rw [List.take_add_one, byteAt s h]; rfl
theorem drop_end (s : ByteArray) : s.data.toList.drop s.size = [] := List.drop_eq_nil_of_le (by simp)
theorem extract_bs (s : ByteArray) (i j : Nat) : s.extract i j = bs ((s.data.toList.take j).drop i) := by
  apply ByteArray.ext
  rw [ByteArray.data_extract]
  apply Array.ext'
  rw [Array.toList_extract, List.extract_eq_take_drop]
  unfold bs
  simp [List.drop_take]
theorem retS {x y : ByteArray} (h : x = y) : Ending.returned (.string x) = .returned (.string y) := by rw [h]
theorem runL_yes {c : UInt8} {r : List UInt8} (h : isW c = true) : runL (c :: r) = c :: runL r := by unfold runL; rw [List.takeWhile_cons, if_pos h]
theorem runL_no {c : UInt8} {r : List UInt8} (h : isW c = false) : runL (c :: r) = [] := by unfold runL; rw [List.takeWhile_cons, if_neg (by rw [h]; decide)]
theorem runL_nil : runL [] = [] := rfl
theorem isW_of (c : UInt8) {x y : Bool} (h1 : isL c = x) (h2 : isD c = y) : isW c = (x || y) := by unfold isW; rw [h1, h2]
theorem run_any (s : ByteArray) (hs : s.size ≤ 140737488355328) (w : World) :
    Calls Tryz.prog 136 #[.string s] w fun e w' => e = .returned (.string (bs (runL s.data.toList))) ∧ w' = w := by
  go_enter Tryz.func136, Tryz.ntmps136
  go_wp2
  go_loop [3] (fun i => ∃ k : Nat, k ≤ s.size ∧ i = .int .i64 k ∧ Hid (runL s.data.toList = s.data.toList.take k ++ runL (s.data.toList.drop k))) (fun i => s.size - (intOf i).toNat)
  case atStart => exact ⟨0, by omega, rfl, hid (by simp)⟩
  case round =>
    obtain ⟨k, hk, rfl, H⟩ := hrel
    by_cases hlt : k < s.size
    · have HD := hid (drop_byte s hlt)
      have HT := hid (take_byte s hlt)
      generalize hc : s[k] = c at HD HT
      have HY : Hid (isW c = true → runL s.data.toList = s.data.toList.take (k + 1) ++ runL (s.data.toList.drop (k + 1))) := hid fun h => by rw [H.out, HD.out, HT.out, runL_yes h]; simp
      have HN : Hid (isW c = false → runL s.data.toList = s.data.toList.take k) := hid fun h => by rw [H.out, HD.out, runL_no h]; simp
      have c1 := isLetter_any c w
      have c2 := isDigit_any c w
      cases h1 : isL c <;> cases h2 : isD c
      all_goals rw [h1] at c1; rw [h2] at c2
      all_goals have C1 := hid c1; have C2 := hid c2; have HW := hid (isW_of c h1 h2); clear c1 c2 h1 h2
      all_goals go_wp2_with (first | (go_at_call 181; refine C1.out.mono ?_; rintro e w' ⟨rfl, rfl⟩) | (go_at_call 182; refine C2.out.mono ?_; rintro e w' ⟨rfl, rfl⟩))
      · go_ret
        exact ⟨retS (by rw [HN.out HW.out, extract_bs, List.drop_zero]), rfl⟩
      all_goals exact ⟨⟨k + 1, by omega, by go_num, hid (HY.out HW.out)⟩, by simp [intOf]; omega⟩
    · obtain rfl : k = s.size := by omega
      go_wp2
      go_ret
      refine ⟨retS ?_, rfl⟩
      have := H.out
      rw [drop_end, runL_nil, List.append_nil, List.take_of_length_le (by simp)] at this
      rw [this, bs_of]
end Go.Proofs.YthcdohggffpopaaGreatDoor
namespace Go.Proofs.YthcdohggffpopaaGreatDoor
open Go.Lib (hid)
open Go.ChangeShapes Go.WideShapes Go.ChangeAt Go.RowKit
theorem valA_le {b : Nat} (hb : 1 ≤ b) : ∀ (l : List UInt8) (n : Nat), n ≤ valA b n l
  | [], n => Nat.le_refl _
  | c :: r, n => by
    have := valA_le hb r (n * b + dv c)
    have h : n ≤ n * b := Nat.le_mul_of_pos_right _ hb
    unfold valA
    omega
def numV (b : Nat) (l : List UInt8) : Nat × Nat := if 18446744073709551616 ≤ valA b 0 l then (0, 5) else (valA b 0 l, 0)
theorem numV_big {b : Nat} {l : List UInt8} (h : 18446744073709551616 ≤ valA b 0 l) : numV b l = (0, 5) := by unfold numV; rw [if_pos h]
theorem numV_small {b : Nat} {l : List UInt8} (h : valA b 0 l < 18446744073709551616) : numV b l = (valA b 0 l, 0) := by unfold numV; rw [if_neg (by omega)]
theorem numV_two (b : Nat) (l : List UInt8) : (∃ n : Nat, numV b l = (n, 0)) ∨ numV b l = (0, 5) := by
  by_cases h : 18446744073709551616 ≤ valA b 0 l
  · exact .inr (numV_big h)
  · exact .inl ⟨_, numV_small (by omega)⟩
theorem hexI_of {c : UInt8} (h : isX c = true) : hexI c = (dv c : Int) := by unfold hexI; rw [if_pos h]
theorem dv_lt {c : UInt8} (h : isX c = true) : dv c < 16 := by
  unfold isX at h
  simp only [decide_eq_true_eq] at h
  unfold dv
  split <;> (try split) <;> omega
theorem retT2 {n e n' e' : Int} (h1 : n = n') (h2 : e = e') : Ending.returned (.tuple #[.int .u64 n, .int .i64 e]) = .returned (.tuple #[.int .u64 n', .int .i64 e']) := by rw [h1, h2]
theorem refValue_any (s : ByteArray) (b : Nat) (B : Int) (hb : b = 10 ∧ B = 10 ∨ b = 16 ∧ B = 16) (hs : s.size ≤ 140737488355328) (hx : s.data.toList.all isX = true) (w : World) :
    Calls Tryz.prog 192 #[.string s, .int .u64 B] w fun e w' => e = .returned (.tuple #[.int .u64 (numV b s.data.toList).1, .int .i64 (numV b s.data.toList).2]) ∧ w' = w := by
  obtain ⟨v, HV⟩ : ∃ v, Hid (v = valA b 0 s.data.toList) := ⟨_, hid rfl⟩
  have HX := hid hx
  clear hx
  go_enter Tryz.func192, Tryz.ntmps192
  go_wp2
  go_loop [6, 7] (fun n i => ∃ (k : Nat) (a : Int), k ≤ s.size ∧ i = .int .i64 k ∧ n = .int .u64 a ∧ 0 ≤ a ∧ a < 18446744073709551616 ∧ Hid (v = valA b a.toNat (s.data.toList.drop k))) (fun _ i => s.size - (intOf i).toNat)
  case atStart => exact ⟨0, 0, by omega, rfl, rfl, by omega, by omega, hid (by rw [HV.out]; rfl)⟩
  case round =>
    obtain ⟨k, a, hk, rfl, rfl, ha0, ha1, H⟩ := hrel
    by_cases hlt : k < s.size
    · have HD := hid (drop_byte s hlt)
      generalize hc : s[k] = c at HD
      have hxc : isX c = true := List.all_eq_true.1 HX.out c (List.mem_of_mem_drop (i := k) (by rw [HD.out]; simp))
      have c1 := refHex_any c w
      rw [hexI_of hxc] at c1
      have hd := dv_lt hxc
      have HS : Hid (v = valA b (a.toNat * b + dv c) (s.data.toList.drop (k + 1))) := hid (by rw [H.out, HD.out, valA])
      generalize dv c = d at c1 hd HS
      have C1 := hid c1
      clear c1 hxc
      have hle : a.toNat * b + d ≤ v := by rw [HS.out]; exact valA_le (by omega) _ _
      by_cases hbig : 18446744073709551616 ≤ a.toNat * b + d
      · have HB : Hid (numV b s.data.toList = (0, 5)) := hid (numV_big (by rw [← HV.out]; omega))
        rcases hb with ⟨rfl, rfl⟩ | ⟨rfl, rfl⟩
        all_goals go_wp2_with (go_at_call 191; refine C1.out.mono ?_; rintro e w' ⟨rfl, rfl⟩)
        all_goals go_ret2
        all_goals exact ⟨retT2 (by rw [HB.out]; rfl) (by rw [HB.out]; rfl), rfl⟩
      · rcases hb with ⟨rfl, rfl⟩ | ⟨rfl, rfl⟩
        · have hn : a * 10 + (d : Int) < 18446744073709551616 := by omega
          have HS' : Hid (v = valA 10 (a * 10 + (d : Int)).toNat (s.data.toList.drop (k + 1))) := hid (by rw [show (a * 10 + (d : Int)).toNat = a.toNat * 10 + d from by omega]; exact HS.out)
          clear hbig hle HS
          go_wp2_with (go_at_call 191; refine C1.out.mono ?_; rintro e w' ⟨rfl, rfl⟩)
          go_round
          case rel => exact ⟨k + 1, a * 10 + (d : Int), by omega, by go_num, by first | rfl | (congr 1; omega), by omega, by omega, HS'⟩
          case measure => simp [intOf]; omega
        · have hn : a * 16 + (d : Int) < 18446744073709551616 := by omega
          have HS' : Hid (v = valA 16 (a * 16 + (d : Int)).toNat (s.data.toList.drop (k + 1))) := hid (by rw [show (a * 16 + (d : Int)).toNat = a.toNat * 16 + d from by omega]; exact HS.out)
          clear hbig hle HS
          go_wp2_with (go_at_call 191; refine C1.out.mono ?_; rintro e w' ⟨rfl, rfl⟩)
          go_round
          case rel => exact ⟨k + 1, a * 16 + (d : Int), by omega, by go_num, by first | rfl | (congr 1; omega), by omega, by omega, HS'⟩
          case measure => simp [intOf]; omega
    · obtain rfl : k = s.size := by omega
      go_wp2
      go_ret2
      have e := H.out
      rw [drop_end, valA] at e
      have := HV.out
      have e2 := numV_small (b := b) (l := s.data.toList) (by omega)
      exact ⟨retT2 (by rw [e2]; show a = ((valA b 0 s.data.toList : Nat) : Int); omega) (by rw [e2]; rfl), rfl⟩
def tkV (t : Tk) (line col : Int) : Value := .agg #[.int .i64 t.k, .string (bs t.t), .int .u64 t.n, .int .i64 line, .int .i64 col]
theorem numB_ok {b : Nat} {p : UInt8 → Bool} {ds : List UInt8} (h1 : ds ≠ []) (h2 : ds.all p = true) : numB b p ds = numV b ds := by
  unfold numB numV
  rw [if_neg (by simp [h1, h2])]
theorem numB_no {b : Nat} {p : UInt8 → Bool} {ds : List UInt8} (h : ds = [] ∨ ds.all p = false) : numB b p ds = (0, 4) := by
  unfold numB
  rw [if_pos h]
def numT (r : List UInt8) (v : Nat × Nat) : Tk × Nat := if v.2 = 0 then (⟨1, r, v.1⟩, 0) else (tk0, v.2)
theorem wnL_num {r : List UInt8} (h : isD (r.headD 0) = true) : wnL r = numT r (numberL r) := by unfold wnL numT; rw [if_pos h]
def hex0 (l : List UInt8) : Bool := [48, 120].isPrefixOf l
theorem hex0_cons (x y : UInt8) (r : List UInt8) : hex0 (x :: y :: r) = (decide (x = 48) && decide (y = 120)) := by
  unfold hex0
  by_cases h1 : x = 48
  · by_cases h2 : y = 120
    · subst h1 h2; rfl
    · subst h1
      have : (120 == y) = false := by simpa using fun e => h2 e.symm
      simp [List.isPrefixOf, this, h2]
  · have : (48 == x) = false := by simpa using fun e => h1 e.symm
    simp [List.isPrefixOf, this, h1]
theorem numberL_hex {l : List UInt8} (h : hex0 l = true) : numberL l = numB 16 isX (l.drop 2) := by unfold numberL; exact if_pos h
theorem numberL_dec {l : List UInt8} (h : hex0 l = false) : numberL l = numB 10 isD l := by unfold numberL; exact if_neg (by unfold hex0 at h; rw [h]; decide)
theorem hex0_not {l : List UInt8} (h : hex0 l = true) : l.all isD = false := by
  rcases l with _ | ⟨x, _ | ⟨y, r⟩⟩
  · simp [hex0, List.isPrefixOf] at h
  · simp [hex0, List.isPrefixOf] at h
  · rw [hex0_cons] at h
    simp only [Bool.and_eq_true, decide_eq_true_eq] at h
    obtain ⟨rfl, rfl⟩ := h
    simp [isD]
theorem isX_of_isD {c : UInt8} (h : isD c = true) : isX c = true := by
  simp only [isD, isX, decide_eq_true_eq] at h ⊢
  omega
theorem all_isX {l : List UInt8} (h : l.all isD = true) : l.all isX = true := List.all_eq_true.2 fun c hc => isX_of_isD (List.all_eq_true.1 h c hc)
theorem eq48 (x : UInt8) (n : Nat) (hn : n < 256) : ((x.toNat : Int) == (n : Int)) = decide (x = UInt8.ofNat n) := by
  rw [Bool.eq_iff_iff, beq_iff_eq, decide_eq_true_eq, ← UInt8.toNat_inj, UInt8.toNat_ofNat', Nat.mod_eq_of_lt hn]
  exact Int.ofNat_inj
theorem hexI_neg (c : UInt8) : decide (hexI c < 0) = !isX c := by
  unfold hexI
  cases h : isX c <;> simp
theorem bytes2 (s : ByteArray) (h : 2 < s.size) : ∃ r, s.data.toList = s[0] :: s[1] :: r := by
  have h0 := drop_byte s (k := 0) (by omega)
  have h1 := drop_byte s (k := 1) (by omega)
  rw [List.drop_zero] at h0
  exact ⟨s.data.toList.drop 2, h0.trans (congrArg _ h1)⟩
set_option maxRecDepth 100000 in
theorem refNumber_any (s : ByteArray) (hs : s.size ≤ 140737488355328) (h0 : 0 < s.size) (hd : isD (s.data.toList.headD 0) = true) (w : World) :
    Calls Tryz.prog 150 #[.string s] w fun e w' => e = .returned (.tuple #[tkV (wnL s.data.toList).1 0 0, .int .i64 (wnL s.data.toList).2]) ∧ Below w.heap.size w w' := by
  rw [wnL_num hd]
  clear hd
  go_enter Tryz.func150, Tryz.ntmps150
  go_upto_region 1 with fail
  go_cut [4] (fun s4 wx => ∃ b0, s4 = .bool b0 ∧ Hid (b0 = (hex0 s.data.toList && decide (2 < s.size))) ∧ wx = w.alloc (.cells #[.int .i64 0, .string ⟨#[]⟩, .int .u64 0, .int .i64 0, .int .i64 0] 133))
  case first =>
    by_cases h2 : 2 < s.size
    · obtain ⟨r, hr⟩ := bytes2 s h2
      have hx := hex0_cons s[0] s[1] r
      rw [← hr] at hx
      have dx : ((s[0].toNat : Int) == 48) = decide (s[0] = 48) := eq48 s[0] 48 (by decide)
      have dy : ((s[1].toNat : Int) == 120) = decide (s[1] = 120) := eq48 s[1] 120 (by decide)
      cases e1 : decide (s[0] = 48) <;> cases e2 : decide (s[1] = 120)
      all_goals rw [e1, e2] at hx
      all_goals have HX := hid hx
      all_goals have dx' := dx.trans e1
      all_goals have dy' := dy.trans e2
      all_goals clear dx dy hr e1 e2 hx
      all_goals go_wp2_with fail
      all_goals go_meet
      all_goals exact ⟨_, rfl, hid (by rw [HX.out, decide_eq_true h2]; rfl), rfl⟩
    · go_wp2_with fail
      go_meet
      exact ⟨false, rfl, hid (by rw [decide_eq_false h2, Bool.and_false]), rfl⟩
  case rest =>
    obtain ⟨b0, rfl, HB, rfl⟩ := hcut
    go_wp2_with fail
    go_loop [4, 5, 6] (fun s4 s5 s6 => ∃ (k : Nat) (t u : Bool), k ≤ s.size ∧ s6 = .int .i64 k ∧ s4 = .bool t ∧ s5 = .bool u ∧ Hid (t = (b0 && ((s.data.toList.take k).drop 2).all isX) ∧ u = (s.data.toList.take k).all isD)) (fun _ _ s6 => s.size - (intOf s6).toNat)
    case atStart => exact ⟨0, b0, true, by omega, rfl, rfl, rfl, hid ⟨by simp, by simp⟩⟩
    case round =>
      obtain ⟨k, t, u, hk, rfl, rfl, rfl, H⟩ := hrel
      by_cases hlt : k < s.size
      · have HT := hid (take_byte s hlt)
        generalize hc : s[k] = c at HT
        have hn := hexI_neg c
        have hk1 : k + 1 ≤ s.size := hlt
        have HU : Hid ((s.data.toList.take (k + 1)).all isD = ((s.data.toList.take k).all isD && isD c)) := hid (by rw [HT.out, List.all_append]; simp)
        have HX1 : Hid (1 < k → ((s.data.toList.take (k + 1)).drop 2).all isX = (((s.data.toList.take k).drop 2).all isX && isX c)) := hid fun h => by
          rw [HT.out, List.drop_append_of_le_length (by rw [List.length_take]; have := size_list s; omega), List.all_append]
          simp
        have HX2 : Hid (¬ 1 < k → ((s.data.toList.take (k + 1)).drop 2).all isX = true ∧ ((s.data.toList.take k).drop 2).all isX = true) := hid fun h => by
          rw [List.drop_eq_nil_of_le (by rw [List.length_take]; omega), List.drop_eq_nil_of_le (by rw [List.length_take]; omega)]
          exact ⟨rfl, rfl⟩
        have c1 := fun w => refDigit_any c w
        have c2 := fun w => refHex_any c w
        generalize hexI c = x at hn c2
        cases h1 : isD c <;> cases h2 : isX c <;> by_cases h3 : 1 < k
        all_goals simp only [h1] at c1
        all_goals rw [h2] at hn
        all_goals have C1 := hid c1; have C2 := hid c2; have H1 := hid h1; have H2 := hid h2; have H3 := hid h3; clear c1 c2 h1 h2
        all_goals go_wp2_with (first | (go_at_call 148; refine (C1.out _).mono ?_; rintro e w' ⟨rfl, rfl⟩) | (go_at_call 191; refine (C2.out _).mono ?_; rintro e w' ⟨rfl, rfl⟩))
        all_goals go_round
        any_goals (case rel => exact ⟨k + 1, _, _, by omega, by go_num, rfl, rfl, hid ⟨by first | simp [HX1.out H3.out, H2.out, H.out.1] | simp [HX2.out H3.out, H.out.1], by simp [HU.out, H1.out, H.out.2]⟩⟩)
        all_goals (case measure => simp [intOf]; omega)
      · obtain rfl : k = s.size := by omega
        rw [List.take_of_length_le (by simp)] at H
        have HS := size_list s
        have HQ : Hid ((t = false → u = false → numberL s.data.toList = (0, 4)) ∧ (t = false → u = true → numberL s.data.toList = numV 10 s.data.toList ∧ s.data.toList.all isX = true) ∧ (t = true → 2 < s.size ∧ numberL s.data.toList = numV 16 (s.data.toList.drop 2) ∧ (s.data.toList.drop 2).all isX = true)) := by
          obtain ⟨ht, hu⟩ := H.out
          have hb := HB.out
          have hne : s.data.toList ≠ [] := fun e => by rw [e, List.length_nil] at HS; omega
          refine hid ⟨fun e1 e2 => ?_, fun e1 e2 => ?_, fun e1 => ?_⟩
          · rw [e2] at hu
            rw [e1] at ht
            cases hh : hex0 s.data.toList with
            | false => rw [numberL_dec hh]; exact numB_no (.inr hu.symm)
            | true =>
              rw [numberL_hex hh]
              by_cases h2 : 2 < s.size
              · rw [hb, hh, decide_eq_true h2] at ht
                exact numB_no (.inr (by simpa using ht.symm))
              · exact numB_no (.inl (List.drop_eq_nil_of_le (by omega)))
          · rw [e2] at hu
            cases hh : hex0 s.data.toList with
            | false => rw [numberL_dec hh]; exact ⟨numB_ok hne hu.symm, all_isX hu.symm⟩
            | true => have := hex0_not hh; rw [this] at hu; cases hu
          · rw [e1, hb] at ht
            have ht' := ht.symm
            simp only [Bool.and_eq_true, decide_eq_true_eq] at ht'
            refine ⟨ht'.1.2, ?_, ht'.2⟩
            rw [numberL_hex ht'.1.1]
            exact numB_ok (fun e => by have := congrArg List.length e; rw [List.length_drop, List.length_nil] at this; have := ht'.1.2; omega) ht'.2
        clear H HB HS
        cases t
        · cases u
          · have HR := hid (HQ.out.1 rfl rfl)
            clear HQ
            go_wp2_with fail
            exact bodyPost_ret (v := .tuple #[.agg #[.int .i64 0, .string ⟨#[]⟩, .int .u64 0, .int .i64 0, .int .i64 0], .int .i64 4]) (by simp [results, Tryz.results150, go_sem]) rfl ⟨by rw [HR.out]; rfl, (Below.refl _ w).alloc (Nat.le_refl _) _⟩
          · obtain ⟨e1, e2⟩ := HQ.out.2.1 rfl rfl
            have c := fun w => refValue_any s 10 10 (.inl ⟨rfl, rfl⟩) hs e2 w
            have HR := hid e1
            clear e1 e2 HQ
            rcases numV_two 10 s.data.toList with ⟨n, hn⟩ | hn
            all_goals
              rw [hn] at c HR
              have C := hid c
              clear c hn
              go_wp2_with (go_at_call 192; refine (C.out _).mono ?_; rintro e w' ⟨rfl, rfl⟩)
            · exact bodyPost_ret (v := .tuple #[.agg #[.int .i64 1, .string s, .int .u64 n, .int .i64 0, .int .i64 0], .int .i64 0]) (by simp [results, Tryz.results150, go_sem]) rfl ⟨by rw [HR.out]; rfl, (Below.refl _ w).alloc (Nat.le_refl _) _⟩
            · exact bodyPost_ret (v := .tuple #[.agg #[.int .i64 0, .string ⟨#[]⟩, .int .u64 0, .int .i64 0, .int .i64 0], .int .i64 5]) (by simp [results, Tryz.results150, go_sem]) rfl ⟨by rw [HR.out]; rfl, (Below.refl _ w).alloc (Nat.le_refl _) _⟩
        · obtain ⟨e0, e1, e2⟩ := HQ.out.2.2 rfl
          have ex : (s.extract 2 s.size).data.toList = s.data.toList.drop 2 := by rw [extract_bs, bs_list, List.take_of_length_le (by simp)]
          have c := fun w => refValue_any (s.extract 2 s.size) 16 16 (.inr ⟨rfl, rfl⟩) (by rw [size_list, ex, List.length_drop, ← size_list]; omega) (by rw [ex]; exact e2) w
          rw [ex] at c
          have HR := hid e1
          have i2 : (2 : Int) ≤ s.size := by omega
          clear e1 e2 HQ ex
          rcases numV_two 16 (s.data.toList.drop 2) with ⟨n, hn⟩ | hn
          all_goals
            rw [hn] at c HR
            have C := hid c
            clear c hn
            go_wp2_with (go_at_call 192; refine (C.out _).mono ?_; rintro e w' ⟨rfl, rfl⟩)
          · exact bodyPost_ret (v := .tuple #[.agg #[.int .i64 1, .string s, .int .u64 n, .int .i64 0, .int .i64 0], .int .i64 0]) (by simp [results, Tryz.results150, go_sem]) rfl ⟨by rw [HR.out]; rfl, (Below.refl _ w).alloc (Nat.le_refl _) _⟩
          · exact bodyPost_ret (v := .tuple #[.agg #[.int .i64 0, .string ⟨#[]⟩, .int .u64 0, .int .i64 0, .int .i64 0], .int .i64 5]) (by simp [results, Tryz.results150, go_sem]) rfl ⟨by rw [HR.out]; rfl, (Below.refl _ w).alloc (Nat.le_refl _) _⟩
end Go.Proofs.YthcdohggffpopaaGreatDoor
