/- Contracts of layer 6: signs and tokens, by the document. · Contracts of layer 6: the first token, by the document. · Contracts of layer 6: the document's Lex. -/
import Derived.Test.YthcdohggffpopaaGreatDoorC1LexC
import Derived.Deep.CutBlock
import Derived.Test.YthcdohggffpopaaGreatDoorC1Toks
import Derived.Below
namespace Go.Proofs.YthcdohggffpopaaGreatDoor
open Go.Lib (hid)
open Go.ChangeShapes Go.WideShapes Go.ChangeAt Go.RowKit
def onesB : ByteArray := ⟨#[123, 125, 40, 41, 91, 93, 59, 58, 44, 61, 60, 62, 43, 45, 42, 47, 37, 38, 124, 33]⟩
theorem sgs_two {k : Nat} (h : k < 9) (l : List UInt8) : signF (sgs.drop k) l = if (sgs.getD k []).isPrefixOf l = true then sgs.getD k [] else signF (sgs.drop (k + 1)) l := by
  have e : sgs.drop k = sgs.getD k [] :: sgs.drop (k + 1) := by
    have hk : k < sgs.length := by rw [show sgs.length = 29 from rfl]; omega
    rw [List.drop_eq_getElem_cons hk, List.getD_eq_getElem?_getD, List.getElem?_eq_getElem hk]; rfl
  rw [e]; rfl
theorem sgs_len {k : Nat} (h : k < 9) : (sgs.getD k []).length = 2 := by
  have : ∀ k, k < 9 → (sgs.getD k []).length = 2 := by decide
  exact this k h
theorem sgs_short : ∀ (k : Nat) (l : List UInt8), l.length ≤ 1 → k ≤ 9 → signF (sgs.drop (9 - k)) l = signF (sgs.drop 9) l
  | 0, l, _, _ => rfl
  | k + 1, l, hl, hk => by
    rw [sgs_two (by omega), if_neg, show 9 - (k + 1) + 1 = 9 - k from by omega]
    · exact sgs_short k l hl (by omega)
    · intro h
      have := (prefix_of_isPrefixOf h).length_le
      rw [sgs_len (by omega)] at this
      omega
theorem eq2 (g : List UInt8) (s : ByteArray) (hg : g.length = 2) : ((bs g).toList == (s.extract 0 2).toList) = g.isPrefixOf s.data.toList := by
  rw [ByteArray.toList_eq, ByteArray.toList_eq, extract_bs, bs_list, bs_list, List.drop_zero, Bool.eq_iff_iff, beq_iff_eq, List.isPrefixOf_iff_prefix, List.prefix_iff_eq_take, hg]
theorem eq1 (s : ByteArray) (h : 0 < s.size) (c : UInt8) : ((c.toNat : Int) == (s[0].toNat : Int)) = [c].isPrefixOf s.data.toList := by
  have := drop_byte s h
  rw [List.drop_zero] at this
  rw [this, Bool.eq_iff_iff, beq_iff_eq, List.isPrefixOf_iff_prefix]
  simp only [List.cons_prefix_cons, List.nil_prefix, and_true, ← UInt8.toNat_inj]
  exact Int.ofNat_inj
theorem sgs_one {O : ByteArray} (hO : O = onesB) {m : Nat} (hm : m < O.size) (l : List UInt8) : signF (sgs.drop (9 + m)) l = if [O[m]'hm].isPrefixOf l = true then [O[m]'hm] else signF (sgs.drop (9 + m + 1)) l := by
  subst hO
  have h20 : m < 20 := hm
  have e : sgs.drop (9 + m) = [onesB[m]'hm] :: sgs.drop (9 + m + 1) := by
    have hk : 9 + m < sgs.length := by rw [show sgs.length = 29 from rfl]; omega
    rw [List.drop_eq_getElem_cons hk]
    congr 1
    have := byteAt onesB hm
    have h2 : ∀ m, m < 20 → sgs[9 + m]? = (onesB.data.toList[m]?).map (fun c => [c]) := by decide
    have h3 := h2 m h20
    rw [this, List.getElem?_eq_getElem hk] at h3
    simpa using h3
  rw [e]; rfl
theorem refSign_any (s : ByteArray) (hs : s.size ≤ 140737488355328) (h0 : 0 < s.size) (w : World) :
    Calls Tryz.prog 151 #[.string s] w fun e w' => e = .returned (.int .i64 (signL s.data.toList).length) ∧ Below w.heap.size w w' := by
  go_enter Tryz.func151, Tryz.ntmps151
  go_wp2_with fail
  go_loopw [4] (fun i wr => ∃ k : Nat, k ≤ 9 ∧ i = .int .i64 k ∧ Hid (signL s.data.toList = signF (sgs.drop k) s.data.toList) ∧ (∀ j, j < 9 → wr.cell? ⟨w.heap.size, j, none⟩ = some (.string (bs (sgs.getD j [])))) ∧ Below w.heap.size w wr) (fun i _ => 9 - (intOf i).toNat)
  case atStart =>
    refine ⟨0, by omega, rfl, hid rfl, fun j hj => ?_, (Below.refl _ w).alloc (Nat.le_refl _) _⟩
    rw [cell_of_row _ _ _ _ _ (0, 0) (heap_alloc_new w _)]
    have : ∀ j, j < 9 → [Value.string ⟨#[46, 46]⟩, .string ⟨#[61, 61]⟩, .string ⟨#[33, 61]⟩, .string ⟨#[60, 61]⟩, .string ⟨#[62, 61]⟩, .string ⟨#[60, 60]⟩, .string ⟨#[62, 62]⟩, .string ⟨#[38, 38]⟩, .string ⟨#[124, 124]⟩][j]? = some (.string (bs (sgs.getD j []))) := by
      intro j hj
      match j, hj with
      | 0, _ => rfl | 1, _ => rfl | 2, _ => rfl | 3, _ => rfl | 4, _ => rfl | 5, _ => rfl | 6, _ => rfl | 7, _ => rfl | 8, _ => rfl
    simpa using this j hj
  case round =>
    obtain ⟨k, hk, rfl, H, hc, hb⟩ := hrel
    have h3 : (k < 9 ∧ 1 < s.size) ∨ (k < 9 ∧ ¬ 1 < s.size) ∨ k = 9 := by omega
    rcases h3 with ⟨hlt, h1⟩ | h3
    · have c0 := hc k hlt
      have HC := hid hc
      have HB := hid hb
      have HP := hid ((H.out).trans (sgs_two hlt s.data.toList))
      have L2 := sgs_len hlt
      obtain ⟨g, hg⟩ : ∃ g, sgs.getD k [] = g := ⟨_, rfl⟩
      rw [hg] at c0 HP L2
      have HL := hid L2
      have e2 := eq2 g s L2
      clear hc hb hg L2
      cases hp : g.isPrefixOf s.data.toList
      all_goals
        rw [hp] at e2
        have HPP := hid hp
        clear hp
        go_wp2_with fail
        go_region
        go_wp2_with fail
      · go_roundw
        case rel => exact ⟨k + 1, by omega, by go_num, hid (by rw [HP.out, if_neg (by rw [HPP.out]; decide)]), fun j hj => HC.out j hj, HB.out.drew⟩
        case measure => simp [intOf]; omega
      · go_ret
        exact ⟨retI (by rw [HP.out, if_pos HPP.out, HL.out]; rfl), HB.out.drew⟩
    · have HF : Hid (signL s.data.toList = signF (sgs.drop (9 + 0)) s.data.toList) := hid (by
        rw [H.out]
        rcases h3 with h3 | h3
        · have := sgs_short (9 - k) s.data.toList (by have := size_list s; omega) (by omega)
          rw [show 9 - (9 - k) = k from by omega] at this
          exact this
        · rw [h3])
      have HB := hid hb
      clear hc H hb
      obtain ⟨O, HO, ho⟩ : ∃ O : ByteArray, Hid (O = onesB) ∧ O.size = 20 := ⟨onesB, hid rfl, rfl⟩
      rcases h3 with ⟨hlt, h1⟩ | rfl
      all_goals
        go_wp2_with fail
        rw [show (⟨#[123, 125, 40, 41, 91, 93, 59, 58, 44, 61, 60, 62, 43, 45, 42, 47, 37, 38, 124, 33]⟩ : ByteArray) = O from HO.out.symm]
        go_loopw [6] (fun i wx => ∃ k : Nat, k ≤ 20 ∧ i = .int .i64 k ∧ Hid (signL s.data.toList = signF (sgs.drop (9 + k)) s.data.toList) ∧ Below w.heap.size w wx) (fun i _ => 20 - (intOf i).toNat)
        case atStart => exact ⟨0, by omega, rfl, HF, HB.out⟩
        case round =>
          obtain ⟨m, hm, rfl, H, hb⟩ := hrel
          by_cases hl2 : m < 20
          · have hmo : m < O.size := by omega
            have e2 := eq1 s h0 (O[m]'hmo)
            have HP : Hid (signL s.data.toList = if [O[m]'hmo].isPrefixOf s.data.toList = true then [O[m]'hmo] else signF (sgs.drop (9 + m + 1)) s.data.toList) := hid (H.out.trans (sgs_one HO.out hmo _))
            have HB := hid hb
            clear hb H
            cases hp : [O[m]'hmo].isPrefixOf s.data.toList
            all_goals
              rw [hp] at e2
              have HPP := hid hp
              clear hp
              go_wp2_with fail
              go_region
              go_wp2_with fail
            · go_roundw
              case rel => exact ⟨m + 1, by omega, by go_num, hid (by rw [HP.out, if_neg (by rw [HPP.out]; decide)]; rfl), HB.out.drew⟩
              case measure => simp [intOf]; omega
            · go_ret
              exact ⟨retI (by rw [HP.out, if_pos HPP.out]; rfl), HB.out.drew⟩
          · obtain rfl : m = 20 := by omega
            go_wp2_with fail
            go_ret
            exact ⟨retI (by rw [H.out]; rfl), hb⟩
end Go.Proofs.YthcdohggffpopaaGreatDoor
namespace Go.Proofs.YthcdohggffpopaaGreatDoor
open Go.Lib (hid)
open Go.ChangeShapes Go.WideShapes Go.ChangeAt Go.RowKit
set_option maxRecDepth 100000 in
theorem refOne_any (s : ByteArray) (hs : s.size ≤ 140737488355328) (h0 : 0 < s.size) (w : World) :
    Calls Tryz.prog 102 #[.string s] w fun e w' => e = .returned (.tuple #[tkV (firstL s.data.toList).1 0 0, .int .i64 (firstL s.data.toList).2]) ∧ Below w.heap.size w w' := by
  go_enter Tryz.func102, Tryz.ntmps102
  go_upto_block 0 with fail
  go_cut [4] (fun s4 wx => ∃ n : Nat, s4 = .int .i64 n ∧ n ≤ s.size ∧ Hid (runL s.data.toList = s.data.toList.take n) ∧ wx = w.alloc (.cells #[.int .i64 0, .string ⟨#[]⟩, .int .u64 0, .int .i64 0, .int .i64 0] 133))
  case first =>
    go_wp2_with fail
    go_loop [4] (fun i => ∃ k : Nat, k ≤ s.size ∧ i = .int .i64 k ∧ Hid (runL s.data.toList = s.data.toList.take k ++ runL (s.data.toList.drop k))) (fun i => s.size - (intOf i).toNat)
    case atStart => exact ⟨0, by omega, rfl, hid (by simp)⟩
    case round =>
      obtain ⟨k, hk, rfl, H⟩ := hrel
      by_cases hlt : k < s.size
      · have HD := hid (drop_byte s hlt)
        have HT := hid (take_byte s hlt)
        generalize hc : s[k] = c at HD HT
        have HY : Hid (isW c = true → runL s.data.toList = s.data.toList.take (k + 1) ++ runL (s.data.toList.drop (k + 1))) := hid fun h => by rw [H.out, HD.out, HT.out, runL_yes h]; simp
        have HN : Hid (isW c = false → runL s.data.toList = s.data.toList.take k) := hid fun h => by rw [H.out, HD.out, runL_no h]; simp
        have c1 := fun w => refLetter_any c w
        have c2 := fun w => refDigit_any c w
        cases h1 : isL c <;> cases h2 : isD c
        all_goals rw [h1] at c1; rw [h2] at c2
        all_goals have C1 := hid c1; have C2 := hid c2; have HW := hid (isW_of c h1 h2); clear c1 c2 h1 h2
        all_goals go_wp2_with (first | (go_at_call 149; refine (C1.out _).mono ?_; rintro e w' ⟨rfl, rfl⟩) | (go_at_call 148; refine (C2.out _).mono ?_; rintro e w' ⟨rfl, rfl⟩))
        · go_meet
          exact ⟨k, rfl, hk, hid (HN.out HW.out), rfl⟩
        all_goals
          go_round
          case rel => exact ⟨k + 1, by omega, by go_num, hid (HY.out HW.out)⟩
          case measure => simp [intOf]; omega
      · obtain rfl : k = s.size := by omega
        go_wp2_with fail
        go_meet
        refine ⟨s.size, rfl, hk, hid ?_, rfl⟩
        have := H.out
        rw [drop_end, runL_nil, List.append_nil] at this
        exact this
  case rest =>
    obtain ⟨n, rfl, hn, HR, rfl⟩ := hcut
    have hne : s.data.toList ≠ [] := fun e => by have := size_list s; rw [e, List.length_nil] at this; omega
    have hd0 := drop_byte s h0
    rw [List.drop_zero] at hd0
    by_cases hn0 : n = 0
    · subst hn0
      have hr0 : runL s.data.toList = [] := by rw [HR.out, List.take_zero]
      have hf : firstL s.data.toList = if signL s.data.toList = [] then (tk0, 4) else (⟨2, signL s.data.toList, 0⟩, 0) := by
        unfold firstL
        rw [if_neg hne, if_neg (by rw [hr0]; exact fun h => h rfl)]
      have c := fun w => refSign_any s hs h0 w
      have hp := signL_prefix s.data.toList
      have hl := hp.length_le
      have HS := size_list s
      have HP := hid (List.prefix_iff_eq_take.1 hp)
      by_cases hz : signL s.data.toList = []
      · rw [if_pos hz] at hf
        rw [hz] at c
        have C := hid c
        have HF := hid hf
        clear c hf hz hl HP hp hne hd0 hr0
        go_wp2_with (go_at_call 151; refine (C.out _).mono ?_; rintro e w' ⟨rfl, hb⟩; obtain ⟨hc, hfz⟩ := bcell hb)
        refine bodyPost_ret (v := .tuple #[.agg #[.int .i64 0, .string ⟨#[]⟩, .int .u64 0, .int .i64 0, .int .i64 0], .int .i64 4]) (by simp [results, Tryz.results102, go_sem, hc]) rfl ⟨by rw [HF.out]; rfl, set5 (chain (below_box _ _) (Nat.le_refl _) hb) (Nat.le_refl _) _ _ _ _ _⟩
      · rw [if_neg hz] at hf
        have hpos : 0 < (signL s.data.toList).length := List.length_pos_iff.2 hz
        generalize hm : (signL s.data.toList).length = m at c hl hpos HP
        have hms : m ≤ s.size := by omega
        have HF := hid hf
        have C := hid c
        clear c hf hz hl hp hne hd0 hr0 hm HS
        go_wp2_with (go_at_call 151; refine (C.out _).mono ?_; rintro e w' ⟨rfl, hb⟩; obtain ⟨hc, hfz⟩ := bcell hb)
        refine bodyPost_ret (v := .tuple #[.agg #[.int .i64 2, .string (s.extract 0 m), .int .u64 0, .int .i64 0, .int .i64 0], .int .i64 0]) (by simp [results, Tryz.results102, go_sem, hc]) rfl ⟨?_, set5 (chain (below_box _ _) (Nat.le_refl _) hb) (Nat.le_refl _) _ _ _ _ _⟩
        rw [HF.out, extract_bs, List.drop_zero, ← HP.out]
        rfl
    · have hr1 : runL s.data.toList ≠ [] := fun e => by
        have := HR.out
        rw [e] at this
        have h2 := congrArg List.length this
        rw [List.length_nil, List.length_take, ← size_list] at h2
        omega
      have hf : firstL s.data.toList = wnL (runL s.data.toList) := by
        unfold firstL
        rw [if_neg hne, if_pos hr1]
      have ex : (s.extract 0 n).data.toList = runL s.data.toList := by rw [extract_bs, bs_list, List.drop_zero, HR.out]
      have hsz : (s.extract 0 n).size = n := by rw [size_list, ex, HR.out, List.length_take, ← size_list]; omega
      have hh : (runL s.data.toList).headD 0 = s[0] := by
        rw [HR.out, hd0]
        obtain ⟨m, rfl⟩ : ∃ m, n = m + 1 := ⟨n - 1, by omega⟩
        rfl
      have cd := fun w => refDigit_any s[0] w
      have i1 : (0 : Int) < n := by omega
      cases hd : isD s[0]
      · rw [hd] at cd
        have CD := hid cd
        by_cases h32 : 32 < n
        · have HF : Hid (firstL s.data.toList = (tk0, 7)) := hid (by
            rw [hf, wnL, if_neg (by rw [hh, hd]; decide), if_pos (by rw [← ex, ← size_list, hsz]; exact h32)])
          clear cd hf hr1 hne hd0 ex hsz hh hd
          go_wp2_with (go_at_call 148; refine (CD.out _).mono ?_; rintro e w' ⟨rfl, rfl⟩)
          exact bodyPost_ret (v := .tuple #[.agg #[.int .i64 0, .string ⟨#[]⟩, .int .u64 0, .int .i64 0, .int .i64 0], .int .i64 7]) (by simp [results, Tryz.results102, go_sem]) rfl ⟨by rw [HF.out]; rfl, below_box _ _⟩
        · have HF : Hid (firstL s.data.toList = (⟨0, runL s.data.toList, 0⟩, 0)) := hid (by
            rw [hf, wnL, if_neg (by rw [hh, hd]; decide), if_neg (by rw [← ex, ← size_list, hsz]; exact h32)])
          have HE := hid ex
          clear cd hf hr1 hne hd0 ex hsz hh hd
          go_wp2_with (go_at_call 148; refine (CD.out _).mono ?_; rintro e w' ⟨rfl, rfl⟩)
          refine bodyPost_ret (v := .tuple #[.agg #[.int .i64 0, .string (s.extract 0 n), .int .u64 0, .int .i64 0, .int .i64 0], .int .i64 0]) (by simp [results, Tryz.results102, go_sem]) rfl ⟨?_, below_box _ _⟩
          rw [HF.out, ← HE.out]
          rfl
      · rw [hd] at cd
        have CD := hid cd
        have c := fun w => refNumber_any (s.extract 0 n) (by omega) (by omega) (by rw [ex, hh]; exact hd) w
        rw [ex, ← hf] at c
        unfold tkV at c
        obtain ⟨q, HQ⟩ : ∃ q, Hid (firstL s.data.toList = q) := ⟨_, hid rfl⟩
        rw [HQ.out] at c
        clear cd hf hr1 hne hd0 ex hh hd HR hsz
        obtain ⟨⟨k, t, v⟩, e⟩ := q
        have C := hid c
        clear c
        simp only at C
        go_wp2_with (first | (go_at_call 148; refine (CD.out _).mono ?_; rintro e w' ⟨rfl, rfl⟩) | (go_at_call 150; refine (C.out _).mono ?_; rintro e w' ⟨rfl, hb⟩; obtain ⟨hc, hfz⟩ := bcell hb))
        exact bodyPost_ret (v := .tuple #[.agg #[.int .i64 k, .string (bs t), .int .u64 v, .int .i64 0, .int .i64 0], .int .i64 e]) (by simp [results, Tryz.results102, go_sem, hc]) rfl ⟨by rw [HQ.out]; rfl, set5 (chain (below_box _ _) (Nat.le_refl _) hb) (Nat.le_refl _) _ _ _ _ _⟩
end Go.Proofs.YthcdohggffpopaaGreatDoor
namespace Go.Proofs.YthcdohggffpopaaGreatDoor
open Go.Lib (hid)
open Go.ChangeShapes Go.WideShapes Go.ChangeAt Go.RowKit
def LR.toks : LR → List Tok
  | .ok l => l
  | .bad _ _ => []
def LR.pos : LR → Ps
  | .ok _ => (0, 0)
  | .bad p _ => p
def LR.err : LR → Nat
  | .ok _ => 0
  | .bad _ e => e
theorem isW_feed {c : UInt8} (h : isW c = true) : c ≠ 10 := fun e => by subst e; simp [isW, isL, isD] at h
theorem run_feed (l : List UInt8) : (runL l).count 10 = 0 := by
  rw [List.count_eq_zero]
  intro h
  have : (runL l).all isW = true := List.all_takeWhile
  exact isW_feed (List.all_eq_true.1 this _ h) rfl
theorem sgs_feed : sgs.all (fun g => g.count 10 == 0) = true := by decide
theorem sign_feed (l : List UInt8) : (signL l).count 10 = 0 := by
  rcases signF_mem sgs l with h | ⟨h, _⟩
  · unfold signL; rw [h]; rfl
  · exact eq_of_beq (List.all_eq_true.1 sgs_feed _ h)
theorem first_feed (l : List UInt8) : (firstL l).1.t.count 10 = 0 := by
  unfold firstL
  split
  · rfl
  · split
    · unfold wnL
      split
      · split
        · exact run_feed l
        · rfl
      · split
        · rfl
        · exact run_feed l
    · split
      · rfl
      · exact sign_feed l
theorem info_rtok : (Tryz.prog.info? 133).map (fun i => (i.zero, i.size, i.bytes)) = some (some (.agg #[.int .i64 0, .string ⟨#[]⟩, .int .u64 0, .int .i64 0, .int .i64 0]), 5, 48) := by kernel_rfl
theorem lexInfo_parts {P : Program} {t : TypeId} {z : Option Value} {n m : Nat} (h : (P.info? t).map (fun i => (i.zero, i.size, i.bytes)) = some (z, n, m)) : ∃ i, P.info? t = some i ∧ i.zero = z ∧ i.size = n ∧ i.bytes = m := by
  obtain ⟨i, h1, h2⟩ := Option.map_eq_some_iff.1 h
  simp only [Prod.mk.injEq] at h2
  exact ⟨i, h1, h2.1, h2.2.1, h2.2.2⟩
theorem res2 {w w' : World} {v0 v1 : Value} {t : TypeId} (h : Below (w.alloc (.cells #[v0, v1] t)).heap.size (w.alloc (.cells #[v0, v1] t)) w') :
    w'.cell? ⟨w.heap.size, 0, none⟩ = some v0 ∧ w'.cell? ⟨w.heap.size, 1, none⟩ = some v1 ∧
    w'.frozen? ⟨w.heap.size, 0, none⟩ = false ∧ w'.frozen? ⟨w.heap.size, 1, none⟩ = false ∧ w.heap.size < w'.heap.size := by
  have hz : w.heap.size < w'.heap.size := Nat.lt_of_lt_of_le (by simp) h.size
  have hh : w'.heap[w.heap.size]? = some (.cells #[v0, v1] t (0, 0)) := (h.block w.heap.size (by simp)).trans (heap_alloc_new w _)
  refine ⟨?_, ?_, ?_, ?_, hz⟩
  · rw [cell_of_row _ _ _ _ _ (0, 0) hh]; rfl
  · rw [cell_of_row _ _ _ _ _ (0, 0) hh]; rfl
  · simp [World.frozen?, hh]
  · simp [World.frozen?, hh]
theorem res2_alloc {w w' : World} {v0 v1 : Value} (h0 : w'.cell? ⟨w.heap.size, 0, none⟩ = some v0) (h1 : w'.cell? ⟨w.heap.size, 1, none⟩ = some v1) (hz : w.heap.size < w'.heap.size) (T : Obj) (u0 : Value) :
    (w'.alloc T).cell? ⟨w.heap.size, 0, none⟩ = some v0 ∧ ((w'.setCell ⟨w.heap.size, 0, none⟩ u0).alloc T).cell? ⟨w.heap.size, 1, none⟩ = some v1 := by
  refine ⟨(World.cell?_alloc_lt _ _ _ hz).trans h0, (World.cell?_alloc_lt _ _ _ (by simpa using hz)).trans ?_⟩
  exact (World.cell?_setCell_other _ _ _ _ (by simp)).trans h1
theorem res2_set {w w' : World} {v0 v1 : Value} (h0 : w'.cell? ⟨w.heap.size, 0, none⟩ = some v0) (h1 : w'.cell? ⟨w.heap.size, 1, none⟩ = some v1) (hz : w.heap.size < w'.heap.size) (T : Obj) (u0 u1 : Value) :
    (((w'.setCell ⟨w.heap.size, 0, none⟩ u0).setCell ⟨w.heap.size, 1, none⟩ u1).alloc T).cell? ⟨w.heap.size, 0, none⟩ = some u0 ∧ (((w'.setCell ⟨w.heap.size, 0, none⟩ u0).setCell ⟨w.heap.size, 1, none⟩ u1).alloc T).cell? ⟨w.heap.size, 1, none⟩ = some u1 := by
  have hz' : w.heap.size < ((w'.setCell ⟨w.heap.size, 0, none⟩ u0).setCell ⟨w.heap.size, 1, none⟩ u1).heap.size := by simpa using hz
  refine ⟨(World.cell?_alloc_lt _ _ _ hz').trans ?_, (World.cell?_alloc_lt _ _ _ hz').trans ?_⟩
  · exact (World.cell?_setCell_other _ _ _ _ (by simp)).trans (World.cell?_setCell_same _ _ _ h0)
  · exact World.cell?_setCell_same _ _ _ ((World.cell?_setCell_other _ _ _ _ (by simp)).trans h1)
set_option maxHeartbeats 4000000 in
set_option maxRecDepth 100000 in
theorem refLex_any (s : ByteArray) (w : World) :
    Calls Tryz.prog 49 #[.string s] w fun e w' => ∃ v, e = .returned (.tuple #[v, .agg #[.int .i64 (lexL s.data.toList).pos.1, .int .i64 (lexL s.data.toList).pos.2], .int .i64 (lexL s.data.toList).err]) ∧ Toks 133 w.heap.size w' v (lexL s.data.toList).toks ∧ Below w.heap.size w w' := by
  by_cases hbig : 16384 < s.size
  · have e : lexL s.data.toList = .bad (1, 1) 7 := by unfold lexL; rw [if_pos (by rw [← size_list]; exact hbig)]
    have E := hid e
    clear e
    go_enter Tryz.func49, Tryz.ntmps49
    go_wp2_with fail
    refine bodyPost_ret (v := .tuple #[.slice none 0 0, .agg #[.int .i64 1, .int .i64 1], .int .i64 7]) (by simp [results, Tryz.results49, go_sem]) rfl ⟨.slice none 0 0, ?_, ?_, ?_⟩
    · rw [E.out]; rfl
    · rw [E.out]; exact Toks.nil _ _ _
    · exact below_box _ _
  · have e : lexL s.data.toList = lexG false (1, 1) s.data.toList := by unfold lexL; rw [if_neg (by rw [← size_list]; exact hbig)]
    obtain ⟨R, hR⟩ : ∃ R, R = lexL s.data.toList := ⟨_, rfl⟩
    have HR : Hid (R = lexG false (1, 1) s.data.toList) := hid (by rw [hR, e])
    rw [← hR]
    clear hR e
    obtain ⟨i0, hi, hz0, hz1, hz2⟩ := lexInfo_parts info_rtok
    go_enter Tryz.func49, Tryz.ntmps49
    go_wp2_with fail
    go_loopw [5, 6, 7, 8] (fun s5 s6 s7 s8 wr => ∃ (k x y : Nat) (acc : List Tok) (v : Value), v = s5 ∧ k ≤ s.size ∧ s8 = .int .i64 k ∧ s6 = .int .i64 x ∧ s7 = .int .i64 y ∧ x ≤ k + 1 ∧ y ≤ k + 1 ∧ acc.length ≤ k ∧ Toks 133 (w.alloc (.cells #[.int .i64 0, .int .i64 0] 34)).heap.size wr v acc ∧ Below (w.alloc (.cells #[.int .i64 0, .int .i64 0] 34)).heap.size (w.alloc (.cells #[.int .i64 0, .int .i64 0] 34)) wr ∧ Hid (R = LR.app acc (lexG false (x, y) (s.data.toList.drop k)))) (fun _ _ _ s8 _ => s.size - (intOf s8).toNat)
    case atStart => exact ⟨0, 1, 1, [], _, rfl, by omega, rfl, rfl, rfl, by omega, by omega, by simp, Toks.nil _ _ _, Below.refl _ _, hid (by rw [HR.out, LR.app_nil, List.drop_zero])⟩
    case round =>
      obtain ⟨k, x, y, acc, v, rfl, hk, rfl, rfl, rfl, hx, hy, ha, hT, hb, H⟩ := hrel
      have HT := hid hT
      have HB := hid hb
      clear hT hb HR
      by_cases hlt : k < s.size
      · have HD := hid (drop_byte s hlt)
        obtain ⟨c, hc⟩ : ∃ c, s[k] = c := ⟨_, rfl⟩
        rw [hc] at HD
        have e10 : ((c.toNat : Int) == 10) = decide (c = 10) := eq48 c 10 (by decide)
        have e32 : ((c.toNat : Int) == 32) = decide (c = 32) := eq48 c 32 (by decide)
        have e9 : ((c.toNat : Int) == 9) = decide (c = 9) := eq48 c 9 (by decide)
        have e13 : ((c.toNat : Int) == 13) = decide (c = 13) := eq48 c 13 (by decide)
        have e47 : ((c.toNat : Int) == 47) = decide (c = 47) := eq48 c 47 (by decide)
        by_cases h10 : c = 10
        · subst h10
          have HS : Hid (R = LR.app acc (lexG false (x + 1, 1) (s.data.toList.drop (k + 1)))) := hid (by rw [H.out, HD.out, lexG_blank (by decide)]; rfl)
          clear e10 e32 e9 e13 e47 H HD
          go_wp2_with fail
          go_roundw
          case rel => exact ⟨k + 1, x + 1, 1, acc, _, rfl, by omega, by go_num, by go_num, rfl, by omega, by omega, by omega, HT.out, HB.out, HS⟩
          case measure => simp [intOf]; omega
        · rw [decide_eq_false h10] at e10
          by_cases hbl : c = 32 ∨ c = 9 ∨ c = 13
          · have HS : Hid (R = LR.app acc (lexG false (x, y + 1) (s.data.toList.drop (k + 1)))) := hid (by
              rw [H.out, HD.out, lexG_blank (by rcases hbl with h | h | h <;> subst h <;> decide)]
              unfold stp
              rw [if_neg h10])
            rcases hbl with h | h | h
            all_goals
              subst h
              clear e10 e32 e9 e13 e47 H HD
              go_wp2_with fail
              go_roundw
              case rel => exact ⟨k + 1, x, y + 1, acc, _, rfl, by omega, by go_num, rfl, by go_num, by omega, by omega, by omega, HT.out, HB.out, HS⟩
              case measure => simp [intOf]; omega
          · have h32 : ¬ c = 32 := fun e => hbl (.inl e)
            have h9 : ¬ c = 9 := fun e => hbl (.inr (.inl e))
            have h13 : ¬ c = 13 := fun e => hbl (.inr (.inr e))
            rw [decide_eq_false h32] at e32
            rw [decide_eq_false h9] at e9
            rw [decide_eq_false h13] at e13
            have HN : Hid (isB c = false) := hid (by simp [isB, h32, h9, h10, h13])
            clear hbl h32 h9 h13
            by_cases hcm : c = 47 ∧ ∃ h : k + 1 < s.size, s[k + 1] = 47
            · obtain ⟨rfl, h2, hc2⟩ := hcm
              have e2 : (((47 : UInt8).toNat : Int) == 47) = true := by decide
              have HS : Hid (R = LR.app acc (lexG true (x, y) (s.data.toList.drop k))) := hid (by
                rw [H.out, HD.out, drop_byte s h2, hc2, lexG_open])
              clear e10 e32 e9 e13 e47 H HD HN
              go_wp2_with fail
              go_loop [7, 8] (fun s7 s8 => ∃ (m z : Nat), k ≤ m ∧ m ≤ s.size ∧ s8 = .int .i64 m ∧ s7 = .int .i64 z ∧ z ≤ m + 1 ∧ Hid (k < m ∨ s.data.toList.drop m = s.data.toList.drop k) ∧ Hid (R = LR.app acc (lexG true (x, z) (s.data.toList.drop m)))) (fun _ s8 => s.size - (intOf s8).toNat)
              case atStart => exact ⟨k, y, by omega, by omega, rfl, rfl, by omega, hid (.inr rfl), HS⟩
              case round =>
                obtain ⟨m, z, hm0, hm, rfl, rfl, hz, HK, HI⟩ := hrel
                by_cases hml : m < s.size
                · obtain ⟨d, hd⟩ : ∃ d, s[m] = d := ⟨_, rfl⟩
                  have HDm := hid (drop_byte s hml)
                  rw [hd] at HDm
                  have f10 : ((d.toNat : Int) == 10) = decide (d = 10) := eq48 d 10 (by decide)
                  by_cases hd10 : d = 10
                  · subst hd10
                    have HE : Hid (R = LR.app acc (lexG false (x, z) (s.data.toList.drop m))) := hid (by rw [HI.out, HDm.out, lexG_feed'])
                    have hkm : k < m := by
                      rcases HK.out with h | h
                      · exact h
                      · by_cases h' : k < m
                        · exact h'
                        · obtain rfl : m = k := by omega
                          rw [hc] at hd
                          exact absurd hd (by decide)
                    clear f10 HI HK
                    go_wp2_with fail
                    go_roundw
                    case rel => exact ⟨m, x, z, acc, v, rfl, by omega, rfl, rfl, rfl, by omega, by omega, by omega, HT.out, HB.out, HE⟩
                    case measure => simp [intOf]; omega
                  · rw [decide_eq_false hd10] at f10
                    have HE : Hid (R = LR.app acc (lexG true (x, z + 1) (s.data.toList.drop (m + 1)))) := hid (by
                      rw [HI.out, HDm.out, lexG_comment hd10]
                      unfold stp
                      rw [if_neg hd10])
                    clear HI HK
                    go_wp2_with fail
                    go_round
                    case rel => exact ⟨m + 1, z + 1, by omega, by omega, by go_num, by go_num, by omega, hid (.inl (by omega)), HE⟩
                    case measure => simp [intOf]; omega
                · obtain rfl : m = s.size := by omega
                  have HE : Hid (R = LR.app acc (lexG false (x, z) (s.data.toList.drop s.size))) := hid (by rw [HI.out, drop_end, lexG_nil, lexG_nil])
                  clear HI HK
                  go_wp2_with fail
                  go_roundw
                  case rel => exact ⟨s.size, x, z, acc, v, rfl, by omega, rfl, rfl, rfl, by omega, by omega, by omega, HT.out, HB.out, HE⟩
                  case measure => simp [intOf]; omega
            · have hBare : Bare (s.data.toList.drop k) := by
                rw [HD.out]
                refine bare_cons HN.out fun h => hcm ⟨h.1, ?_⟩
                have h2 := h.2
                have hlt2 : k + 1 < s.size := by
                  apply Classical.byContradiction
                  intro hn
                  rw [List.drop_eq_nil_of_le (by rw [← size_list]; omega)] at h2
                  cases h2
                refine ⟨hlt2, ?_⟩
                rw [drop_byte s hlt2] at h2
                simpa using h2
              have hL : (s.extract k s.size).data.toList = s.data.toList.drop k := by rw [extract_bs, bs_list, List.take_of_length_le (by simp)]
              have hLs : (s.extract k s.size).size = s.size - k := by rw [size_list, hL, List.length_drop, ← size_list]
              have cc := fun w => refOne_any (s.extract k s.size) (by omega) (by omega) w
              rw [hL] at cc
              obtain ⟨q, HQ⟩ : ∃ q, Hid (firstL (s.data.toList.drop k) = q) := ⟨_, hid rfl⟩
              have hne : s.data.toList.drop k ≠ [] := fun e => by have := congrArg List.length e; rw [List.length_drop, List.length_nil, ← size_list] at this; omega
              have hstep := lexG_token hBare (x, y)
              have hfeed := first_feed (s.data.toList.drop k)
              have hok := fun h => firstL_ok (l := s.data.toList.drop k) h hne
              rw [HQ.out] at cc hstep hfeed hok
              obtain ⟨⟨kk, t, n⟩, e⟩ := q
              simp only [tkV] at cc hstep hfeed hok
              have C := hid cc
              have HO := hid hok
              have HST := hid hstep
              have HFE := hid hfeed
              have i1 : (k : Int) ≤ s.size := by omega
              clear cc hok hstep hfeed hBare hL hLs hne HQ HN
              have h3 : (c ≠ 47) ∨ (c = 47 ∧ ¬ k + 1 < s.size) ∨ (c = 47 ∧ ∃ (h : k + 1 < s.size) (d : UInt8), s[k + 1] = d ∧ ((d.toNat : Int) == 47) = false) := by
                by_cases h47 : c = 47
                · by_cases h2 : k + 1 < s.size
                  · refine .inr (.inr ⟨h47, h2, _, rfl, ?_⟩)
                    exact (eq48 s[k + 1] 47 (by decide)).trans (decide_eq_false fun h => hcm ⟨h47, h2, h⟩)
                  · exact .inr (.inl ⟨h47, h2⟩)
                · exact .inl h47
              clear hcm
              by_cases he : e = 0
              · subst he
                obtain ⟨o1, o2, o3⟩ := HO.out rfl
                have hpl := o3.length_le
                have htl : t.length ≠ 0 := by simpa using o2
                have hsl := size_list s
                rw [List.length_drop] at hpl
                have HS : Hid (R = LR.app (acc ++ [⟨⟨kk, t, n⟩, (x, y)⟩]) (lexG false (x, y + t.length) (s.data.toList.drop (k + t.length)))) := hid (by
                  rw [H.out, HST.out, if_neg (by decide), if_neg o1, LR.app_cons, posL_no _ _ HFE.out, List.drop_drop])
                have hbl : (bs t).size = t.length := rfl
                have hkt : k + t.length ≤ s.size := by omega
                clear HO HST HFE H HD o1 o2 o3 hpl hsl
                generalize hm : t.length = m at HS hbl hkt htl
                have hez : (((0 : Nat) : Int) != 0) = false := by decide
                rcases h3 with h3 | ⟨h3, h4⟩ | ⟨h3, h4, d, h5, h6⟩
                all_goals
                  first | rw [decide_eq_false h3] at e47 | rw [decide_eq_true h3] at e47
                  have H3 := hid h3
                  clear h3
                  go_wp2_with (first | (go_at_call 102; refine (C.out _).mono ?_; rintro e' w' ⟨rfl, hb'⟩; have hb2 := HB.out.trans (hb'.mono HB.out.size); have hT2 := HT.out.below hb' (Nat.le_refl _); have hB2 := Nat.le_trans hb2.size (below_box w' (.cells #[.int .i64 kk, .string (bs t), .int .u64 n, .int .i64 x, .int .i64 y] 133)).size) | (at_builtin; go_loud (refine append_tok rfl _ _ 119 rfl (w.alloc (.cells #[.int .i64 0, .int .i64 0] 34)).heap.size 133 i0 _ 48 Tryz.underlying119 hi hz0 hz1 hz2 rfl v acc ⟨⟨kk, t, n⟩, (x, y)⟩ _ _ _ _ _ rfl rfl (hT2.alloc _) (w'.heap.size + 1) (by simp) _ rfl (by unfold maxLen; omega) (by omega) hB2 ?_); intro v' w3 hT' hb3 hk3; obtain ⟨hc3, hz3⟩ := tok_block (fun g hg => (hT2.lt g hg).2) hk3; have hb4 := (hb2.alloc hb2.size _).trans hb3))
                  go_roundw
                  case rel => exact ⟨k + m, x, y + m, _, v', rfl, by omega, by go_num, rfl, by go_num, by omega, by omega, by rw [List.length_append, List.length_singleton]; omega, hT', hb4, HS⟩
                  case measure => simp [intOf]; omega
              · have HE : Hid (R = .bad (x, y) e) := hid (by rw [H.out, HST.out, if_pos he]; rfl)
                have hez : ((e : Int) != 0) = true := by simp; omega
                clear HO HST HFE H HD
                rcases h3 with h3 | ⟨h3, h4⟩ | ⟨h3, h4, d, h5, h6⟩
                all_goals
                  first | rw [decide_eq_false h3] at e47 | rw [decide_eq_true h3] at e47
                  have H3 := hid h3
                  clear h3
                  go_wp2_with (go_at_call 102; refine (C.out _).mono ?_; rintro e' w' ⟨rfl, hb'⟩; have hb2 := HB.out.trans (hb'.mono HB.out.size); obtain ⟨a0, a1, a2, a3, a4⟩ := res2 hb2; have a5 := fun T u => (res2_alloc a0 a1 a4 T u).1; have a6 := fun T u => (res2_alloc a0 a1 a4 T u).2; have A7 := hid (fun T u0 u1 => res2_set a0 a1 a4 T u0 u1))
                  obtain ⟨b0, b1⟩ := A7.out (.cells #[.int .i64 kk, .string (bs t), .int .u64 n, .int .i64 0, .int .i64 0] 133) (.int .i64 x) (.int .i64 y)
                  refine bodyPost_ret (v := .tuple #[.slice none 0 0, .agg #[.int .i64 x, .int .i64 y], .int .i64 e]) (by simp [results, Tryz.results49, go_sem, b0, b1]) rfl ⟨.slice none 0 0, by rw [HE.out]; rfl, by rw [HE.out]; exact Toks.nil _ _ _, ?_⟩
                  have q : Below w.heap.size w ((w'.setCell ⟨w.heap.size, 0, none⟩ (.int .i64 x)).setCell ⟨w.heap.size, 1, none⟩ (.int .i64 y)) := Below.setCell (Below.setCell (chain (below_box _ _) (Nat.le_refl _) hb2) (Nat.le_refl _) _) (Nat.le_refl _) _
                  exact q.alloc q.size _
      · obtain rfl : k = s.size := by omega
        have HF : Hid (R = .ok (acc ++ [⟨tkEnd, (x, y)⟩])) := hid (by rw [H.out, drop_end, lexG_nil]; rfl)
        have hT := HT.out
        have hB := HB.out.size
        clear H
        go_wp2_with (at_builtin; refine append_tok rfl _ _ 119 rfl (w.alloc (.cells #[.int .i64 0, .int .i64 0] 34)).heap.size 133 i0 _ 48 Tryz.underlying119 hi hz0 hz1 hz2 rfl v acc ⟨tkEnd, (x, y)⟩ _ _ _ _ _ rfl rfl hT _ rfl _ rfl (by unfold maxLen; omega) (by omega) hB ?_; intro v' w' hT' hb' _; have hb2 := HB.out.trans hb'; obtain ⟨hc, hfz⟩ := bcell hb2)
        refine bodyPost_ret (v := .tuple #[v', .agg #[.int .i64 0, .int .i64 0], .int .i64 0]) (by simp [results, Tryz.results49, go_sem, hc]) rfl ⟨v', by rw [HF.out]; rfl, ?_, ?_⟩
        · rw [HF.out]
          exact ((hT'.low (by simp) _).low (by simp) _).base (by simp)
        · exact Below.setCell (Below.setCell (chain (below_box _ _) (Nat.le_refl _) hb2) (Nat.le_refl _) _) (Nat.le_refl _) _
end Go.Proofs.YthcdohggffpopaaGreatDoor
