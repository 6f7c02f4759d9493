/- Layer 7, the mathematics: where tokens stand makes no difference to a parser. No program. · TopBlanks, the mathematics: tokens with any gaps behind them are read as the same tokens. No program. -/
import Derived.Test.YthcdohggffpopaaGreatDoorC4ParseP
import Derived.Test.YthcdohggffpopaaGreatDoorC4ShL
import Derived.Test.YthcdohggffpopaaGreatDoorC4LexQ
import Derived.Test.YthcdohggffpopaaGreatDoorC4LexY
import Derived.Test.YthcdohggffpopaaGreatDoorC4ParTok
import Derived.Test.YthcdohggffpopaaGreatDoorC4ParLv
namespace Go.Proofs.YthcdohggffpopaaGreatDoor
def PR.mp {α : Type} (g : Tok → Tok) : PR α → PR α
  | .ok a l => .ok a (l.map g)
  | .bad l e => .bad (l.map g) e
section
variable {g : Tok → Tok} (hg : ∀ t, (g t).tk = t.tk)
include hg
theorem hd_mp (l : List Tok) : (hd (l.map g)).tk = (hd l).tk := by
  cases l with
  | nil => rfl
  | cons a r => exact hg a
omit hg in
theorem tail_mp (l : List Tok) : (l.map g).tail = l.tail.map g := by cases l <;> rfl
omit hg in
theorem bind_mp {α β : Type} {r : PR α} {f' f : α → List Tok → PR β} (h : ∀ a l, f' a (l.map g) = (f a l).mp g) : (r.mp g).bind f' = (r.bind f).mp g := by
  cases r with
  | ok a l => exact h a l
  | bad l e => rfl
theorem isT_mp (k : List UInt8) (l : List Tok) : isT k (l.map g) = isT k l := by unfold isT; rw [hd_mp hg]
theorem isName_mp (l : List Tok) : isName (l.map g) = isName l := by unfold isName; rw [hd_mp hg]
theorem isNum_mp (l : List Tok) : isNum (l.map g) = isNum l := by unfold isNum; rw [hd_mp hg]
theorem begE_mp (l : List Tok) : begE (l.map g) = begE l := by unfold begE; rw [isT_mp hg, isT_mp hg, isNum_mp hg, isName_mp hg]
theorem begT_mp (l : List Tok) : begT (l.map g) = begT l := by unfold begT; rw [hd_mp hg, isName_mp hg]
theorem derK_mp (l : List Tok) : derK (l.map g) = derK l := by unfold derK; simp only [isT_mp hg]
theorem need_mp (k : List UInt8) (l : List Tok) : need k (l.map g) = (need k l).mp g := by
  unfold need; rw [isT_mp hg, tail_mp]; split <;> rfl
theorem name_mp (l : List Tok) : nameP (l.map g) = (nameP l).mp g := by
  unfold nameP; rw [isName_mp hg, tail_mp, hd_mp hg]; split <;> rfl
theorem num_mp (l : List Tok) : numP (l.map g) = (numP l).mp g := by
  unfold numP; rw [isNum_mp hg, tail_mp, hd_mp hg]; split <;> rfl
omit hg in
theorem expect_mp (b : Bool) (l : List Tok) : expectP b (l.map g) = (expectP b l).mp g := by unfold expectP; split <;> rfl
omit hg in
theorem room_mp (k : Nat) (l : List Tok) : roomP k (l.map g) = (roomP k l).mp g := by unfold roomP; split <;> rfl
omit hg in
theorem enter_mp (b : Bool) (d : Nat) (l : List Tok) : enterP b d (l.map g) = (enterP b d l).mp g := by
  unfold enterP; split
  · rfl
  · split <;> rfl
theorem expr_mp : ∀ n, (∀ d l, unary n d (l.map g) = (unary n d l).mp g) ∧ (∀ v d l, bin n v d (l.map g) = (bin n v d l).mp g) ∧ (∀ v d a l, loopB n v d a (l.map g) = (loopB n v d a l).mp g)
  | 0 => ⟨fun d l => by rw [unary, unary]; rfl, fun v d l => by rw [bin, bin]; rfl, fun v d a l => by rw [loopB, loopB]; rfl⟩
  | n + 1 => by
    obtain ⟨i1, i2, i3⟩ := expr_mp n
    refine ⟨fun d l => ?_, fun v d l => ?_, fun v d a l => ?_⟩
    · rw [unary, unary, isT_mp hg, isT_mp hg, isNum_mp hg, isName_mp hg, tail_mp, hd_mp hg, begE_mp hg]
      split
      · rw [enter_mp]; refine bind_mp fun _ l1 => ?_
        rw [i1]; exact bind_mp fun a l2 => rfl
      split
      · rw [enter_mp]; refine bind_mp fun _ l1 => ?_
        rw [i2]; refine bind_mp fun a l2 => ?_
        rw [need_mp hg]; exact bind_mp fun _ l3 => rfl
      split
      · rfl
      split <;> rfl
    · rw [bin, bin, i1]; exact bind_mp fun a l1 => i3 v d a l1
    · rw [loopB, loopB, hd_mp hg, tail_mp]
      split
      · rw [i2]; exact bind_mp fun b l1 => i3 _ _ _ _
      · rfl
theorem bin_mp (n v d : Nat) (l : List Tok) : bin n v d (l.map g) = (bin n v d l).mp g := (expr_mp hg n).2.1 v d l
theorem idx_mp (n d : Nat) (l : List Tok) : idxP n d (l.map g) = (idxP n d l).mp g := by
  unfold idxP
  rw [need_mp hg]; refine bind_mp fun _ l1 => ?_
  rw [bin_mp hg]; refine bind_mp fun e l2 => ?_
  rw [need_mp hg]; exact bind_mp fun _ l3 => rfl
theorem argsL_mp : ∀ (n : Nat) es d l, argsL n es d (l.map g) = (argsL n es d l).mp g
  | 0, _, _, _ => by rw [argsL, argsL]; rfl
  | n + 1, es, d, l => by
    rw [argsL, argsL, isT_mp hg, tail_mp, begE_mp hg]
    split
    · rw [expect_mp]; refine bind_mp fun _ l1 => ?_
      rw [room_mp]; refine bind_mp fun _ l2 => ?_
      rw [bin_mp hg]; exact bind_mp fun e l3 => argsL_mp n _ _ _
    · rfl
theorem args_mp (n d : Nat) (l : List Tok) : argsP n d (l.map g) = (argsP n d l).mp g := by
  unfold argsP
  rw [bin_mp hg]; refine bind_mp fun e l1 => ?_
  rw [argsL_mp hg]; refine bind_mp fun es l2 => ?_
  rw [need_mp hg]; exact bind_mp fun _ l3 => rfl
theorem single_mp (n d : Nat) (l : List Tok) : singleP n d (l.map g) = (singleP n d l).mp g := by
  unfold singleP
  rw [hd_mp hg, tail_mp]
  split
  · rfl
  · rw [isT_mp hg, tail_mp]
    split
    · rw [args_mp hg]; exact bind_mp fun es l1 => rfl
    · rfl
theorem elem_mp (n d : Nat) (l : List Tok) : elemP n d (l.map g) = (elemP n d l).mp g := by
  unfold elemP
  rw [single_mp hg]; refine bind_mp fun t l1 => ?_
  rw [isT_mp hg]
  split
  · rw [idx_mp hg]; exact bind_mp fun e l2 => rfl
  · rfl
theorem types_mp : ∀ n, (∀ d l, typP n d (l.map g) = (typP n d l).mp g) ∧ (∀ d l, innerP n d (l.map g) = (innerP n d l).mp g) ∧ (∀ d l, branchP n d (l.map g) = (branchP n d l).mp g) ∧
    (∀ d k cs l, casesL n d k cs (l.map g) = (casesL n d k cs l).mp g) ∧ (∀ d l, switchP n d (l.map g) = (switchP n d l).mp g)
  | 0 => ⟨fun d l => by rw [typP, typP]; rfl, fun d l => by rw [innerP, innerP]; rfl, fun d l => by rw [branchP, branchP]; rfl, fun d k cs l => by rw [casesL, casesL]; rfl, fun d l => by rw [switchP, switchP]; rfl⟩
  | n + 1 => by
    obtain ⟨i1, i2, i3, i4, i5⟩ := types_mp n
    refine ⟨fun d l => ?_, fun d l => ?_, fun d l => ?_, fun d k cs l => ?_, fun d l => ?_⟩
    · rw [typP, typP]
      simp only [isT_mp hg, tail_mp, begT_mp hg]
      split
      · rfl
      split
      · rw [idx_mp hg]; exact bind_mp fun e l1 => rfl
      split
      · rw [idx_mp hg]; exact bind_mp fun e l1 => rfl
      split
      · rw [idx_mp hg]; exact bind_mp fun e l1 => rfl
      split
      · rw [idx_mp hg]; refine bind_mp fun e l1 => ?_
        rw [i2]; exact bind_mp fun t l2 => rfl
      split
      · rw [idx_mp hg]; refine bind_mp fun e l1 => ?_
        rw [i2]; exact bind_mp fun t l2 => rfl
      split
      · rw [i2]; exact bind_mp fun t l2 => rfl
      split
      · rfl
      split
      · rfl
      split
      · exact i5 d _
      · exact elem_mp hg n d l
    · rw [innerP, innerP, begT_mp hg, enter_mp]; exact bind_mp fun _ l1 => i1 _ _
    · rw [branchP, branchP, need_mp hg]; refine bind_mp fun _ l1 => ?_
      rw [i2]; refine bind_mp fun t l2 => ?_
      rw [need_mp hg]; exact bind_mp fun _ l3 => rfl
    · rw [casesL, casesL, isT_mp hg, tail_mp]
      split
      · rw [room_mp]; refine bind_mp fun _ _ => ?_
        rw [num_mp hg]; refine bind_mp fun v l1 => ?_
        rw [i3]; exact bind_mp fun t l2 => i4 _ _ _ _
      · rfl
    · rw [switchP, switchP, need_mp hg]; refine bind_mp fun _ l1 => ?_
      rw [bin_mp hg]; refine bind_mp fun e l2 => ?_
      rw [need_mp hg]; refine bind_mp fun _ l3 => ?_
      rw [need_mp hg]; refine bind_mp fun _ l4 => ?_
      rw [i4]; refine bind_mp fun cs l5 => ?_
      rw [isT_mp hg, tail_mp]
      split
      · rw [i3]; refine bind_mp fun t l6 => ?_
        rw [need_mp hg]; exact bind_mp fun _ l7 => rfl
      · rw [need_mp hg]; exact bind_mp fun _ l7 => rfl
theorem der_mp (l : List Tok) : derP (l.map g) = (derP l).mp g := by
  unfold derP
  rw [derK_mp hg, tail_mp]
  split
  · rfl
  rw [need_mp hg]; refine bind_mp fun _ l1 => ?_
  rw [name_mp hg]; refine bind_mp fun a l2 => ?_
  split
  · rw [need_mp hg]; exact bind_mp fun _ l3 => rfl
  · rw [need_mp hg]; refine bind_mp fun _ l3 => ?_
    rw [name_mp hg]; refine bind_mp fun b l4 => ?_
    rw [need_mp hg]; exact bind_mp fun _ l5 => rfl
theorem optD_mp (l : List Tok) : optD (l.map g) = (optD l).mp g := by
  unfold optD
  rw [isT_mp hg, tail_mp]
  split
  · exact der_mp hg _
  · rfl
theorem optW_mp (n : Nat) (l : List Tok) : optW n (l.map g) = (optW n l).mp g := by
  unfold optW
  rw [isT_mp hg, tail_mp]
  split
  · rw [bin_mp hg]; exact bind_mp fun e l1 => rfl
  · rfl
theorem field_mp (n : Nat) (l : List Tok) : fieldP n (l.map g) = (fieldP n l).mp g := by
  unfold fieldP
  rw [name_mp hg]; refine bind_mp fun s l1 => ?_
  rw [need_mp hg]; refine bind_mp fun _ l2 => ?_
  rw [(types_mp hg n).1]; refine bind_mp fun t l3 => ?_
  rw [optD_mp hg]; refine bind_mp fun d l4 => ?_
  rw [optW_mp hg]; refine bind_mp fun w l5 => ?_
  rw [need_mp hg]; exact bind_mp fun _ l6 => rfl
theorem sub_mp (l : List Tok) : subP (l.map g) = (subP l).mp g := by
  unfold subP
  rw [name_mp hg]; refine bind_mp fun s l1 => ?_
  rw [need_mp hg]; refine bind_mp fun _ l2 => ?_
  rw [num_mp hg]; refine bind_mp fun v l3 => ?_
  rw [need_mp hg]; exact bind_mp fun _ l4 => rfl
theorem subsL_mp : ∀ (n : Nat) ss l, subsL n ss (l.map g) = (subsL n ss l).mp g
  | 0, _, _ => by rw [subsL, subsL]; rfl
  | n + 1, ss, l => by
    rw [subsL, subsL, isT_mp hg, tail_mp, isName_mp hg]
    split
    · rfl
    · rw [expect_mp]; refine bind_mp fun _ _ => ?_
      rw [room_mp]; refine bind_mp fun _ _ => ?_
      rw [sub_mp hg]; exact bind_mp fun x l1 => subsL_mp n _ _
theorem pack_mp (n : Nat) (l : List Tok) : packP n (l.map g) = (packP n l).mp g := by
  unfold packP
  rw [hd_mp hg, tail_mp]
  split
  · rfl
  · rw [need_mp hg]; refine bind_mp fun _ l1 => ?_
    rw [sub_mp hg]; refine bind_mp fun x l2 => ?_
    rw [subsL_mp hg]; exact bind_mp fun ss l3 => rfl
theorem item_mp (n : Nat) (l : List Tok) : itemP n (l.map g) = (itemP n l).mp g := by
  unfold itemP
  rw [isT_mp hg, tail_mp]
  split
  · exact pack_mp hg _ _
  · exact field_mp hg _ _
theorem itemsL_mp : ∀ (n : Nat) is l, itemsL n is (l.map g) = (itemsL n is l).mp g
  | 0, _, _ => by rw [itemsL, itemsL]; rfl
  | n + 1, is, l => by
    rw [itemsL, itemsL, isT_mp hg, tail_mp, isName_mp hg, isT_mp hg]
    split
    · rfl
    · rw [expect_mp]; refine bind_mp fun _ _ => ?_
      rw [room_mp]; refine bind_mp fun _ _ => ?_
      rw [item_mp hg]; exact bind_mp fun x l1 => itemsL_mp n _ _
theorem paramsL_mp : ∀ (n : Nat) ps l, paramsL n ps (l.map g) = (paramsL n ps l).mp g
  | 0, _, _ => by rw [paramsL, paramsL]; rfl
  | n + 1, ps, l => by
    rw [paramsL, paramsL, isT_mp hg, tail_mp, isName_mp hg]
    split
    · rw [expect_mp]; refine bind_mp fun _ l1 => ?_
      rw [room_mp]; refine bind_mp fun _ l2 => ?_
      rw [name_mp hg]; exact bind_mp fun x l3 => paramsL_mp n _ _
    · rfl
theorem optP_mp (n : Nat) (l : List Tok) : optP n (l.map g) = (optP n l).mp g := by
  unfold optP
  rw [isT_mp hg, tail_mp]
  split
  · unfold paramsP
    rw [name_mp hg]; refine bind_mp fun s l1 => ?_
    rw [paramsL_mp hg]; refine bind_mp fun ps l2 => ?_
    rw [need_mp hg]; exact bind_mp fun _ l3 => rfl
  · rfl
theorem struct_mp (n : Nat) (l : List Tok) : structP n (l.map g) = (structP n l).mp g := by
  unfold structP
  rw [need_mp hg]; refine bind_mp fun _ l1 => ?_
  rw [name_mp hg]; refine bind_mp fun s l2 => ?_
  rw [optP_mp hg]; refine bind_mp fun ps l3 => ?_
  rw [need_mp hg]; refine bind_mp fun _ l4 => ?_
  rw [itemsL_mp hg]; exact bind_mp fun is l5 => rfl
theorem const_mp (l : List Tok) : constP (l.map g) = (constP l).mp g := by
  unfold constP
  rw [need_mp hg]; refine bind_mp fun _ l1 => ?_
  rw [name_mp hg]; refine bind_mp fun s l2 => ?_
  rw [need_mp hg]; refine bind_mp fun _ l3 => ?_
  rw [num_mp hg]; refine bind_mp fun v l4 => ?_
  rw [need_mp hg]; exact bind_mp fun _ l5 => rfl
theorem file_mp : ∀ (n : Nat) cs ss l, fileL n cs ss (l.map g) = (fileL n cs ss l).mp g
  | 0, _, _, _ => by rw [fileL, fileL]; rfl
  | n + 1, cs, ss, l => by
    rw [fileL, fileL, hd_mp hg, isT_mp hg, isT_mp hg]
    split
    · rfl
    split
    · rw [room_mp]; refine bind_mp fun _ _ => ?_
      rw [const_mp hg]; exact bind_mp fun c l1 => file_mp n _ _ _
    split
    · rw [room_mp]; refine bind_mp fun _ _ => ?_
      rw [struct_mp hg]; exact bind_mp fun s l1 => file_mp n _ _ _
    · rfl
end
def bare0 (t : Tok) : Tok := ⟨t.tk, (0, 0)⟩
theorem bare_map (l : List Tok) : l.map bare0 = (l.map (·.tk)).map fun v => ⟨v, (0, 0)⟩ := by rw [List.map_map]; rfl
theorem file_same {l l' : List Tok} (h : l.map (·.tk) = l'.map (·.tk)) (n : Nat) (cs : List (List UInt8 × Nat)) (ss : List SA) : (fileL n cs ss l).mp bare0 = (fileL n cs ss l').mp bare0 := by
  rw [← file_mp (g := bare0) (fun t => rfl), ← file_mp (g := bare0) (fun t => rfl), bare_map, bare_map, h]
theorem file_same_ok {l l' r : List Tok} (h : l.map (·.tk) = l'.map (·.tk)) {n : Nat} {cs : List (List UInt8 × Nat)} {ss : List SA} {a} (e : fileL n cs ss l = .ok a r) : ∃ r', fileL n cs ss l' = .ok a r' := by
  have := file_same h n cs ss
  rw [e] at this
  cases h' : fileL n cs ss l' with
  | ok a' r' => rw [h'] at this; simp only [PR.mp, PR.ok.injEq] at this; rw [this.1]; exact ⟨_, rfl⟩
  | bad r' e' => rw [h'] at this; cases this
end Go.Proofs.YthcdohggffpopaaGreatDoor
namespace Go.Proofs.YthcdohggffpopaaGreatDoor
def BR (rest : List UInt8) : Prop := ∃ c r, rest = c :: r ∧ isB c = true
def fillsL : List (List UInt8) := [[32], [10], [9, 32], [32, 47, 47, 32, 120, 10], [13, 10], [32, 32], [32, 47, 47, 10], [10, 10]]
theorem slash_skip (p : Ps) (r : List UInt8) : lexG false p (47 :: 47 :: r) = lexG true (stp p 47) (47 :: r) := lexG_skip (by conv => { lhs; rw [skipM, if_neg (by decide), if_pos ⟨rfl, rfl⟩] }) p
theorem fill_skip : ∀ g ∈ fillsL, (∃ c r, g = c :: r ∧ isB c = true) ∧ g.length ≤ 6 ∧ ∀ p rest, ∃ p', lexG false p (g ++ rest) = lexG false p' rest := by
  intro g hg
  simp only [fillsL, List.mem_cons, List.mem_nil_iff, or_false] at hg
  rcases hg with rfl | rfl | rfl | rfl | rfl | rfl | rfl | rfl
  · exact ⟨⟨_, _, rfl, by decide⟩, by decide, fun p rest => ⟨_, lexG_blank (by decide) p⟩⟩
  · exact ⟨⟨_, _, rfl, by decide⟩, by decide, fun p rest => ⟨_, lexG_blank (by decide) p⟩⟩
  · exact ⟨⟨_, _, rfl, by decide⟩, by decide, fun p rest => ⟨_, (lexG_blank (by decide) p).trans (lexG_blank (by decide) _)⟩⟩
  · exact ⟨⟨_, _, rfl, by decide⟩, by decide, fun p rest => ⟨_, (lexG_blank (by decide) p).trans ((slash_skip _ _).trans ((lexG_comment (by decide) _).trans ((lexG_comment (by decide) _).trans ((lexG_comment (by decide) _).trans (lexG_feed _)))))⟩⟩
  · exact ⟨⟨_, _, rfl, by decide⟩, by decide, fun p rest => ⟨_, (lexG_blank (by decide) p).trans (lexG_blank (by decide) _)⟩⟩
  · exact ⟨⟨_, _, rfl, by decide⟩, by decide, fun p rest => ⟨_, (lexG_blank (by decide) p).trans (lexG_blank (by decide) _)⟩⟩
  · exact ⟨⟨_, _, rfl, by decide⟩, by decide, fun p rest => ⟨_, (lexG_blank (by decide) p).trans ((slash_skip _ _).trans ((lexG_comment (by decide) _).trans (lexG_feed _)))⟩⟩
  · exact ⟨⟨_, _, rfl, by decide⟩, by decide, fun p rest => ⟨_, (lexG_blank (by decide) p).trans (lexG_blank (by decide) _)⟩⟩
theorem fill_lx {g : List UInt8} (h : g ∈ fillsL) : Lx g [] AnyR := fun rest _ Vs hV p => by
  obtain ⟨p', e⟩ := (fill_skip g h).2.2 p rest
  rw [e]; exact hV p'
theorem fill_br {g : List UInt8} (h : g ∈ fillsL) (rest : List UInt8) : BR (g ++ rest) := by
  obtain ⟨c, r, e, hb⟩ := (fill_skip g h).1
  exact ⟨c, r ++ rest, by rw [e]; rfl, hb⟩
theorem blank_w {c : UInt8} (h : isB c = true) : c = 32 ∨ c = 9 ∨ c = 10 ∨ c = 13 := by
  unfold isB at h
  simpa using h
theorem run_restB {R rest : List UInt8} (hR : ∀ x ∈ R, isW x = true) (h : BR rest) : runL (R ++ rest) = R := by
  unfold runL
  rw [List.takeWhile_append_of_pos hR]
  obtain ⟨c, r, rfl, hc⟩ := h
  have : isW c = false := by rcases blank_w hc with rfl | rfl | rfl | rfl <;> decide
  rw [List.takeWhile_cons, if_neg (by rw [this]; decide), List.append_nil]
def GoodB (V : Tk) : Prop := V.k ≠ 3 ∧ ∀ rest, BR rest → firstL (V.t ++ rest) = (V, 0) ∧ Bare (V.t ++ rest)
theorem good_runB {R : List UInt8} (h1 : R ≠ []) (h2 : ∀ x ∈ R, isW x = true) (h3 : (wnL R).2 = 0) : GoodB (wnL R).1 := by
  refine ⟨(wnL_cases R h3).2, fun rest hr => ?_⟩
  rw [wnL_t h3]
  constructor
  · have hne : R ++ rest ≠ [] := by simp [h1]
    unfold firstL
    rw [if_neg hne, run_restB h2 hr, if_pos h1]
    exact Prod.ext rfl h3
  · cases R with
    | nil => exact absurd rfl h1
    | cons c r =>
      have := isW_bare (h2 c List.mem_cons_self)
      exact bare_cons this.1 fun e => this.2 e.1
theorem sign_restB (g : List UInt8) (hg : g ∈ sgs) (rest : List UInt8) (h : BR rest) : signL (g ++ rest) = g ∧ runL (g ++ rest) = [] ∧ Bare (g ++ rest) := by
  simp only [sgs, List.mem_cons, List.mem_nil_iff, or_false] at hg
  obtain ⟨c, r, rfl, hc⟩ := h
  rcases blank_w hc with rfl | rfl | rfl | rfl
  all_goals
    rcases hg with rfl | rfl | rfl | rfl | rfl | rfl | rfl | rfl | rfl | rfl | rfl | rfl | rfl | rfl | rfl | rfl | rfl | rfl | rfl | rfl | rfl | rfl | rfl | rfl | rfl | rfl | rfl | rfl | rfl <;> exact ⟨rfl, rfl, rfl⟩
theorem good_signB {g : List UInt8} (hg : g ∈ sgs) (h1 : g ≠ []) : GoodB ⟨2, g, 0⟩ := by
  refine ⟨(by decide : (2 : Nat) ≠ 3), fun rest hr => ?_⟩
  obtain ⟨e1, e2, e3⟩ := sign_restB g hg rest hr
  refine ⟨?_, e3⟩
  unfold firstL
  rw [if_neg (by simp [h1]), e2, if_neg (fun e => e rfl), e1, if_neg h1]
theorem good_firstB {l : List UInt8} (hl : l ≠ []) (h : (firstL l).2 = 0) : GoodB (firstL l).1 := by
  unfold firstL at h ⊢
  rw [if_neg hl] at h ⊢
  by_cases hr : runL l ≠ []
  · rw [if_pos hr] at h ⊢
    exact good_runB hr (fun x hx => by have := List.all_takeWhile (p := isW) (l := l); exact List.all_eq_true.1 this x hx) h
  · rw [if_neg hr] at h ⊢
    by_cases hs : signL l = []
    · rw [if_pos hs] at h; simp at h
    · rw [if_neg hs]
      rcases signF_mem sgs l with e | ⟨e, _⟩
      · exact absurd e hs
      · exact good_signB e hs
theorem lexG_goodB : ∀ (n : Nat) (b : Bool) (p : Ps) (l : List UInt8) (ts : List Tok), l.length ≤ n → lexG b p l = .ok ts → ∃ i e, ts = i ++ [e] ∧ e.tk = tkEnd ∧ ∀ t ∈ i, GoodB t.tk := by
  intro n
  induction n with
  | zero =>
    intro b p l ts hl h
    obtain rfl : l = [] := List.eq_nil_of_length_eq_zero (by omega)
    rw [lexG_nil] at h
    cases h
    exact ⟨[], _, rfl, rfl, by simp⟩
  | succ n ih =>
    intro b p l ts hl h
    rw [lexG_eq] at h
    by_cases he : (firstL (skipM b l)).2 ≠ 0
    · rw [if_pos he] at h; cases h
    · rw [if_neg he] at h
      have he0 : (firstL (skipM b l)).2 = 0 := by simpa using he
      by_cases h3 : (firstL (skipM b l)).1.k = 3
      · rw [if_pos h3] at h
        have := firstL_three he0 h3
        rw [this] at h
        cases h
        exact ⟨[], _, rfl, rfl, by simp⟩
      · rw [if_neg h3] at h
        have hne : skipM b l ≠ [] := fun e => h3 (by rw [e]; rfl)
        have hd := drop_lt he0 hne
        have hs := skipM_len b l
        obtain ⟨u, hu, rfl⟩ := LR.cons_ok h
        obtain ⟨i, e, rfl, i1, i2⟩ := ih _ _ _ u (by omega) hu
        refine ⟨_ :: i, e, rfl, i1, ?_⟩
        intro t ht
        rcases List.mem_cons.1 ht with rfl | ht
        · exact good_firstB hne he0
        · exact i2 t ht
def spaced (gap : Nat → List UInt8) : List Tok → Nat → List UInt8
  | [], _ => []
  | t :: r, i => t.tk.t ++ (gap i ++ spaced gap r (i + 1))
theorem spaced_app (gap : Nat → List UInt8) : ∀ (a b : List Tok) (i : Nat), spaced gap (a ++ b) i = spaced gap a i ++ spaced gap b (i + a.length)
  | [], b, i => rfl
  | t :: a, b, i => by
    rw [List.cons_append, spaced, spaced_app gap a b (i + 1), spaced, List.length_cons, show i + 1 + a.length = i + (a.length + 1) by omega]
    simp only [List.append_assoc]
theorem spaced_take (gap : Nat → List UInt8) {l : List Tok} {k : Nat} {t : Tok} (h : l[k]? = some t) : spaced gap (l.take (k + 1)) 0 = spaced gap (l.take k) 0 ++ (t.tk.t ++ gap k) := by
  have hk := (List.getElem?_eq_some_iff.1 h).1
  rw [List.take_add_one, h, Option.toList_some, spaced_app, List.length_take, Nat.zero_add, Nat.min_eq_left (by omega)]
  simp [spaced]
theorem spaced_len {gap : Nat → List UInt8} (hg : ∀ i, gap i ∈ fillsL) : ∀ (l : List Tok) (i : Nat), (spaced gap l i).length ≤ sumL l + 6 * l.length
  | [], _ => by simp [spaced]
  | t :: r, i => by
    have h1 := (fill_skip _ (hg i)).2.1
    have h2 := spaced_len hg r (i + 1)
    simp only [spaced, sumL, List.length_append, List.length_cons]; omega
theorem spaced_lx {gap : Nat → List UInt8} (hg : ∀ i, gap i ∈ fillsL) : ∀ (l : List Tok) (i : Nat), (∀ t ∈ l, GoodB t.tk) → Lx (spaced gap l i) (l.map (·.tk)) AnyR
  | [], _, _ => Lx.nil _
  | t :: r, i, h => by
    have h1 : Lx t.tk.t [t.tk] BR := lx_tok rfl (h t (by simp)).1 (h t (by simp)).2
    have h2 := h1.app ((fill_lx (hg i)).app (spaced_lx hg r (i + 1) fun x hx => h x (by simp [hx])) fun _ _ => trivial) fun rest _ => by
      rw [List.append_assoc]; exact fill_br (hg i) _
    exact h2
theorem relex {s : List UInt8} {ts : List Tok} (h : lexL s = .ok ts) {gap : Nat → List UInt8} (hg : ∀ i, gap i ∈ fillsL) (hl : (spaced gap ts 0).length ≤ 16384) : ∃ us, lexL (spaced gap ts 0) = .ok us ∧ us.map (·.tk) = ts.map (·.tk) := by
  unfold lexL at h
  split at h
  · cases h
  · obtain ⟨i, e, rfl, he, hi⟩ := lexG_goodB _ _ _ s ts (Nat.le_refl _) h
    have h1 := spaced_lx hg i 0 hi
    have h2 : Lx (spaced gap [e] (0 + i.length)) [] AnyR := by
      have : spaced gap [e] (0 + i.length) = gap (0 + i.length) := by
        rw [spaced, he]; simp [spaced, tkEnd]
      rw [this]; exact fill_lx (hg _)
    have h3 := h1.app h2 fun _ _ => trivial
    rw [← spaced_app] at h3
    unfold lexL
    rw [if_neg (by omega)]
    obtain ⟨us, e1, e2⟩ := h3 [] trivial [tkEnd] (fun p => ⟨[⟨tkEnd, p⟩], by rw [lexG_nil], rfl⟩) (1, 1)
    rw [List.append_nil] at e1
    refine ⟨us, e1, ?_⟩
    rw [e2, List.append_nil, List.map_append, List.map_cons, List.map_nil, he]
theorem lexL_room {s : List UInt8} {ts : List Tok} (h : lexL s = .ok ts) : ts.length ≤ s.length + 1 ∧ sumL ts ≤ s.length := by
  unfold lexL at h
  split at h
  · cases h
  · obtain ⟨h1, h2, -⟩ := lexG_all _ _ _ s ts (Nat.le_refl _) h
    exact ⟨h1, h2⟩
theorem parse_same {s s' : List UInt8} {ts us : List Tok} (h : lexL s = .ok ts) (h' : lexL s' = .ok us) (e : us.map (·.tk) = ts.map (·.tk)) : (∀ f, parseL s = .ok f → parseL s' = .ok f) ∧ (∀ p x, parseL s = .bad p x → ∃ p', parseL s' = .bad p' x) := by
  have hlen : us.length = ts.length := by
    have := congrArg List.length e
    simpa using this
  have hf : fuel us = fuel ts := by unfold fuel; rw [hlen]
  unfold parseL
  rw [h, h']
  dsimp only
  unfold fileP
  rw [hf]
  cases hr : fileL (fuel ts) [] [] ts with
  | ok a l =>
    obtain ⟨r', e1⟩ := file_same_ok e.symm hr
    rw [e1]
    exact ⟨fun f hf => hf, fun p x hb => by cases hb⟩
  | bad l k =>
    have hs := file_same e.symm (fuel ts) [] []
    rw [hr] at hs
    cases h2 : fileL (fuel ts) [] [] us with
    | ok a' r' => rw [h2] at hs; cases hs
    | bad r' e' =>
      rw [h2] at hs
      simp only [PR.mp, PR.bad.injEq] at hs
      refine ⟨fun f hf => (by cases hf), fun p x hb => ?_⟩
      simp only [FR.bad.injEq] at hb
      exact ⟨_, by rw [← hb.2, ← hs.2]⟩
end Go.Proofs.YthcdohggffpopaaGreatDoor
