/- Layer 7, the mathematics: where tokens stand makes no difference to a parser. No program. · Layer 10, mathematics (for ExprParts): the Files of both parts and of the whole. No program. -/
import Derived.Test.YtomimkgaelkaoaaGreatDoorC12ParseP
import Derived.Test.YtomimkgaelkaoaaGreatDoorC12ExCc
import Derived.Test.YtomimkgaelkaoaaGreatDoorC12ParLv
import Derived.KernelRfl
set_option linter.unusedVariables false
set_option linter.unusedSimpArgs false
namespace Go.Proofs.YtomimkgaelkaoaaGreatDoor
def PR.mp {α : Type} (g : Tok → Tok) : PR α → PR α
 | .ok a l => .ok a (l.map g)
 | .bad l e => .bad (l.map g) e
section
variable {g : Tok → Tok} (hg : ∀ t, (g t).tk = t.tk)
include hg
theorem hd_mp (l : List Tok) : (hd (l.map g)).tk = (hd l).tk := by
 cases l with
 | nil => rfl
 | cons a r => exact hg a
omit hg in
theorem tail_mp (l : List Tok) : (l.map g).tail = l.tail.map g := by cases l <;> rfl
omit hg in
theorem bind_mp {α β : Type} {r : PR α} {f' f : α → List Tok → PR β} (h : ∀ a l, f' a (l.map g) = (f a l).mp g) : (r.mp g).bind f' = (r.bind f).mp g := by
 cases r with
 | ok a l => exact h a l
 | bad l e => rfl
theorem isT_mp (k : List UInt8) (l : List Tok) : isT k (l.map g) = isT k l := by unfold isT; rw [hd_mp hg]
theorem isName_mp (l : List Tok) : isName (l.map g) = isName l := by unfold isName; rw [hd_mp hg]
theorem isNum_mp (l : List Tok) : isNum (l.map g) = isNum l := by unfold isNum; rw [hd_mp hg]
theorem begE_mp (l : List Tok) : begE (l.map g) = begE l := by unfold begE; rw [isT_mp hg, isT_mp hg, isNum_mp hg, isName_mp hg]
theorem begT_mp (l : List Tok) : begT (l.map g) = begT l := by unfold begT; rw [hd_mp hg, isName_mp hg]
theorem derK_mp (l : List Tok) : derK (l.map g) = derK l := by unfold derK; simp only [isT_mp hg]
theorem need_mp (k : List UInt8) (l : List Tok) : need k (l.map g) = (need k l).mp g := by
 unfold need; rw [isT_mp hg, tail_mp]; split <;> rfl
theorem name_mp (l : List Tok) : nameP (l.map g) = (nameP l).mp g := by
 unfold nameP; rw [isName_mp hg, tail_mp, hd_mp hg]; split <;> rfl
theorem num_mp (l : List Tok) : numP (l.map g) = (numP l).mp g := by
 unfold numP; rw [isNum_mp hg, tail_mp, hd_mp hg]; split <;> rfl
omit hg in
theorem expect_mp (b : Bool) (l : List Tok) : expectP b (l.map g) = (expectP b l).mp g := by unfold expectP; split <;> rfl
omit hg in
theorem room_mp (k : Nat) (l : List Tok) : roomP k (l.map g) = (roomP k l).mp g := by unfold roomP; split <;> rfl
omit hg in
theorem enter_mp (b : Bool) (d : Nat) (l : List Tok) : enterP b d (l.map g) = (enterP b d l).mp g := by
 unfold enterP; split
 ·rfl
 ·split <;> rfl
theorem expr_mp : ∀ n, (∀ d l, unary n d (l.map g) = (unary n d l).mp g) ∧ (∀ v d l, bin n v d (l.map g) = (bin n v d l).mp g) ∧ (∀ v d a l, loopB n v d a (l.map g) = (loopB n v d a l).mp g)
 | 0 => ⟨fun d l => by rw [unary, unary]; rfl, fun v d l => by rw [bin, bin]; rfl, fun v d a l => by rw [loopB, loopB]; rfl⟩
 | n + 1 => by
  obtain ⟨i1, i2, i3⟩ := expr_mp n
  refine ⟨fun d l => ?_, fun v d l => ?_, fun v d a l => ?_⟩
  ·rw [unary, unary, isT_mp hg, isT_mp hg, isNum_mp hg, isName_mp hg, tail_mp, hd_mp hg, begE_mp hg]
   split
   ·rw [enter_mp]; refine bind_mp fun _ l1 => ?_
    rw [i1]; exact bind_mp fun a l2 => rfl
   split
   ·rw [enter_mp]; refine bind_mp fun _ l1 => ?_
    rw [i2]; refine bind_mp fun a l2 => ?_
    rw [need_mp hg]; exact bind_mp fun _ l3 => rfl
   split
   ·rfl
   split <;> rfl
  ·rw [bin, bin, i1]; exact bind_mp fun a l1 => i3 v d a l1
  ·rw [loopB, loopB, hd_mp hg, tail_mp]
   split
   ·rw [i2]; exact bind_mp fun b l1 => i3 _ _ _ _
   ·rfl
theorem bin_mp (n v d : Nat) (l : List Tok) : bin n v d (l.map g) = (bin n v d l).mp g := (expr_mp hg n).2.1 v d l
theorem idx_mp (n d : Nat) (l : List Tok) : idxP n d (l.map g) = (idxP n d l).mp g := by
 unfold idxP
 rw [need_mp hg]; refine bind_mp fun _ l1 => ?_
 rw [bin_mp hg]; refine bind_mp fun e l2 => ?_
 rw [need_mp hg]; exact bind_mp fun _ l3 => rfl
theorem argsL_mp : ∀ (n : Nat) es d l, argsL n es d (l.map g) = (argsL n es d l).mp g
 | 0, _, _, _ => by rw [argsL, argsL]; rfl
 | n + 1, es, d, l => by
  rw [argsL, argsL, isT_mp hg, tail_mp, begE_mp hg]
  split
  ·rw [expect_mp]; refine bind_mp fun _ l1 => ?_
   rw [room_mp]; refine bind_mp fun _ l2 => ?_
   rw [bin_mp hg]; exact bind_mp fun e l3 => argsL_mp n _ _ _
  ·rfl
theorem args_mp (n d : Nat) (l : List Tok) : argsP n d (l.map g) = (argsP n d l).mp g := by
 unfold argsP
 rw [bin_mp hg]; refine bind_mp fun e l1 => ?_
 rw [argsL_mp hg]; refine bind_mp fun es l2 => ?_
 rw [need_mp hg]; exact bind_mp fun _ l3 => rfl
theorem single_mp (n d : Nat) (l : List Tok) : singleP n d (l.map g) = (singleP n d l).mp g := by
 unfold singleP
 rw [hd_mp hg, tail_mp]
 split
 ·rfl
 ·rw [isT_mp hg, tail_mp]
  split
  ·rw [args_mp hg]; exact bind_mp fun es l1 => rfl
  ·rfl
theorem elem_mp (n d : Nat) (l : List Tok) : elemP n d (l.map g) = (elemP n d l).mp g := by
 unfold elemP
 rw [single_mp hg]; refine bind_mp fun t l1 => ?_
 rw [isT_mp hg]
 split
 ·rw [idx_mp hg]; exact bind_mp fun e l2 => rfl
 ·rfl
theorem types_mp : ∀ n, (∀ d l, typP n d (l.map g) = (typP n d l).mp g) ∧ (∀ d l, innerP n d (l.map g) = (innerP n d l).mp g) ∧ (∀ d l, branchP n d (l.map g) = (branchP n d l).mp g) ∧
  (∀ d k cs l, casesL n d k cs (l.map g) = (casesL n d k cs l).mp g) ∧ (∀ d l, switchP n d (l.map g) = (switchP n d l).mp g)
 | 0 => ⟨fun d l => by rw [typP, typP]; rfl, fun d l => by rw [innerP, innerP]; rfl, fun d l => by rw [branchP, branchP]; rfl, fun d k cs l => by rw [casesL, casesL]; rfl, fun d l => by rw [switchP, switchP]; rfl⟩
 | n + 1 => by
  obtain ⟨i1, i2, i3, i4, i5⟩ := types_mp n
  refine ⟨fun d l => ?_, fun d l => ?_, fun d l => ?_, fun d k cs l => ?_, fun d l => ?_⟩
  ·rw [typP, typP]
   simp only [isT_mp hg, tail_mp, begT_mp hg]
   split
   ·rfl
   split
   ·rw [idx_mp hg]; exact bind_mp fun e l1 => rfl
   split
   ·rw [idx_mp hg]; exact bind_mp fun e l1 => rfl
   split
   ·rw [idx_mp hg]; exact bind_mp fun e l1 => rfl
   split
   ·rw [idx_mp hg]; refine bind_mp fun e l1 => ?_
    rw [i2]; exact bind_mp fun t l2 => rfl
   split
   ·rw [idx_mp hg]; refine bind_mp fun e l1 => ?_
    rw [i2]; exact bind_mp fun t l2 => rfl
   split
   ·rw [i2]; exact bind_mp fun t l2 => rfl
   split
   ·rfl
   split
   ·rfl
   split
   ·exact i5 d _
   ·exact elem_mp hg n d l
  ·rw [innerP, innerP, begT_mp hg, enter_mp]; exact bind_mp fun _ l1 => i1 _ _
  ·rw [branchP, branchP, need_mp hg]; refine bind_mp fun _ l1 => ?_
   rw [i2]; refine bind_mp fun t l2 => ?_
   rw [need_mp hg]; exact bind_mp fun _ l3 => rfl
  ·rw [casesL, casesL, isT_mp hg, tail_mp]
   split
   ·rw [room_mp]; refine bind_mp fun _ _ => ?_
    rw [num_mp hg]; refine bind_mp fun v l1 => ?_
    rw [i3]; exact bind_mp fun t l2 => i4 _ _ _ _
   ·rfl
  ·rw [switchP, switchP, need_mp hg]; refine bind_mp fun _ l1 => ?_
   rw [bin_mp hg]; refine bind_mp fun e l2 => ?_
   rw [need_mp hg]; refine bind_mp fun _ l3 => ?_
   rw [need_mp hg]; refine bind_mp fun _ l4 => ?_
   rw [i4]; refine bind_mp fun cs l5 => ?_
   rw [isT_mp hg, tail_mp]
   split
   ·rw [i3]; refine bind_mp fun t l6 => ?_
    rw [need_mp hg]; exact bind_mp fun _ l7 => rfl
   ·rw [need_mp hg]; exact bind_mp fun _ l7 => rfl
theorem der_mp (l : List Tok) : derP (l.map g) = (derP l).mp g := by
 unfold derP
 rw [derK_mp hg, tail_mp]
 split
 ·rfl
 rw [need_mp hg]; refine bind_mp fun _ l1 => ?_
 rw [name_mp hg]; refine bind_mp fun a l2 => ?_
 split
 ·rw [need_mp hg]; exact bind_mp fun _ l3 => rfl
 ·rw [need_mp hg]; refine bind_mp fun _ l3 => ?_
  rw [name_mp hg]; refine bind_mp fun b l4 => ?_
  rw [need_mp hg]; exact bind_mp fun _ l5 => rfl
theorem optD_mp (l : List Tok) : optD (l.map g) = (optD l).mp g := by
 unfold optD
 rw [isT_mp hg, tail_mp]
 split
 ·exact der_mp hg _
 ·rfl
theorem optW_mp (n : Nat) (l : List Tok) : optW n (l.map g) = (optW n l).mp g := by
 unfold optW
 rw [isT_mp hg, tail_mp]
 split
 ·rw [bin_mp hg]; exact bind_mp fun e l1 => rfl
 ·rfl
theorem field_mp (n : Nat) (l : List Tok) : fieldP n (l.map g) = (fieldP n l).mp g := by
 unfold fieldP
 rw [name_mp hg]; refine bind_mp fun s l1 => ?_
 rw [need_mp hg]; refine bind_mp fun _ l2 => ?_
 rw [(types_mp hg n).1]; refine bind_mp fun t l3 => ?_
 rw [optD_mp hg]; refine bind_mp fun d l4 => ?_
 rw [optW_mp hg]; refine bind_mp fun w l5 => ?_
 rw [need_mp hg]; exact bind_mp fun _ l6 => rfl
theorem sub_mp (l : List Tok) : subP (l.map g) = (subP l).mp g := by
 unfold subP
 rw [name_mp hg]; refine bind_mp fun s l1 => ?_
 rw [need_mp hg]; refine bind_mp fun _ l2 => ?_
 rw [num_mp hg]; refine bind_mp fun v l3 => ?_
 rw [need_mp hg]; exact bind_mp fun _ l4 => rfl
theorem subsL_mp : ∀ (n : Nat) ss l, subsL n ss (l.map g) = (subsL n ss l).mp g
 | 0, _, _ => by rw [subsL, subsL]; rfl
 | n + 1, ss, l => by
  rw [subsL, subsL, isT_mp hg, tail_mp, isName_mp hg]
  split
  ·rfl
  ·rw [expect_mp]; refine bind_mp fun _ _ => ?_
   rw [room_mp]; refine bind_mp fun _ _ => ?_
   rw [sub_mp hg]; exact bind_mp fun x l1 => subsL_mp n _ _
theorem pack_mp (n : Nat) (l : List Tok) : packP n (l.map g) = (packP n l).mp g := by
 unfold packP
 rw [hd_mp hg, tail_mp]
 split
 ·rfl
 ·rw [need_mp hg]; refine bind_mp fun _ l1 => ?_
  rw [sub_mp hg]; refine bind_mp fun x l2 => ?_
  rw [subsL_mp hg]; exact bind_mp fun ss l3 => rfl
theorem item_mp (n : Nat) (l : List Tok) : itemP n (l.map g) = (itemP n l).mp g := by
 unfold itemP
 rw [isT_mp hg, tail_mp]
 split
 ·exact pack_mp hg _ _
 ·exact field_mp hg _ _
theorem itemsL_mp : ∀ (n : Nat) is l, itemsL n is (l.map g) = (itemsL n is l).mp g
 | 0, _, _ => by rw [itemsL, itemsL]; rfl
 | n + 1, is, l => by
  rw [itemsL, itemsL, isT_mp hg, tail_mp, isName_mp hg, isT_mp hg]
  split
  ·rfl
  ·rw [expect_mp]; refine bind_mp fun _ _ => ?_
   rw [room_mp]; refine bind_mp fun _ _ => ?_
   rw [item_mp hg]; exact bind_mp fun x l1 => itemsL_mp n _ _
theorem paramsL_mp : ∀ (n : Nat) ps l, paramsL n ps (l.map g) = (paramsL n ps l).mp g
 | 0, _, _ => by rw [paramsL, paramsL]; rfl
 | n + 1, ps, l => by
  rw [paramsL, paramsL, isT_mp hg, tail_mp, isName_mp hg]
  split
  ·rw [expect_mp]; refine bind_mp fun _ l1 => ?_
   rw [room_mp]; refine bind_mp fun _ l2 => ?_
   rw [name_mp hg]; exact bind_mp fun x l3 => paramsL_mp n _ _
  ·rfl
theorem optP_mp (n : Nat) (l : List Tok) : optP n (l.map g) = (optP n l).mp g := by
 unfold optP
 rw [isT_mp hg, tail_mp]
 split
 ·unfold paramsP
  rw [name_mp hg]; refine bind_mp fun s l1 => ?_
  rw [paramsL_mp hg]; refine bind_mp fun ps l2 => ?_
  rw [need_mp hg]; exact bind_mp fun _ l3 => rfl
 ·rfl
theorem struct_mp (n : Nat) (l : List Tok) : structP n (l.map g) = (structP n l).mp g := by
 unfold structP
 rw [need_mp hg]; refine bind_mp fun _ l1 => ?_
 rw [name_mp hg]; refine bind_mp fun s l2 => ?_
 rw [optP_mp hg]; refine bind_mp fun ps l3 => ?_
 rw [need_mp hg]; refine bind_mp fun _ l4 => ?_
 rw [itemsL_mp hg]; exact bind_mp fun is l5 => rfl
theorem const_mp (l : List Tok) : constP (l.map g) = (constP l).mp g := by
 unfold constP
 rw [need_mp hg]; refine bind_mp fun _ l1 => ?_
 rw [name_mp hg]; refine bind_mp fun s l2 => ?_
 rw [need_mp hg]; refine bind_mp fun _ l3 => ?_
 rw [num_mp hg]; refine bind_mp fun v l4 => ?_
 rw [need_mp hg]; exact bind_mp fun _ l5 => rfl
theorem file_mp : ∀ (n : Nat) cs ss l, fileL n cs ss (l.map g) = (fileL n cs ss l).mp g
 | 0, _, _, _ => by rw [fileL, fileL]; rfl
 | n + 1, cs, ss, l => by
  rw [fileL, fileL, hd_mp hg, isT_mp hg, isT_mp hg]
  split
  ·rfl
  split
  ·rw [room_mp]; refine bind_mp fun _ _ => ?_
   rw [const_mp hg]; exact bind_mp fun c l1 => file_mp n _ _ _
  split
  ·rw [room_mp]; refine bind_mp fun _ _ => ?_
   rw [struct_mp hg]; exact bind_mp fun s l1 => file_mp n _ _ _
  ·rfl
end
def bare0 (t : Tok) : Tok := ⟨t.tk, (0, 0)⟩
theorem bare_map (l : List Tok) : l.map bare0 = (l.map (·.tk)).map fun v => ⟨v, (0, 0)⟩ := by rw [List.map_map]; rfl
theorem file_same {l l' : List Tok} (h : l.map (·.tk) = l'.map (·.tk)) (n : Nat) (cs : List (List UInt8 × Nat)) (ss : List SA) : (fileL n cs ss l).mp bare0 = (fileL n cs ss l').mp bare0 := by
 rw [← file_mp (g := bare0) (fun t => rfl), ← file_mp (g := bare0) (fun t => rfl), bare_map, bare_map, h]
theorem file_same_ok {l l' r : List Tok} (h : l.map (·.tk) = l'.map (·.tk)) {n : Nat} {cs : List (List UInt8 × Nat)} {ss : List SA} {a} (e : fileL n cs ss l = .ok a r) : ∃ r', fileL n cs ss l' = .ok a r' := by
 have := file_same h n cs ss
 rw [e] at this
 cases h' : fileL n cs ss l' with
 | ok a' r' => rw [h'] at this; simp only [PR.mp, PR.ok.injEq] at this; rw [this.1]; exact ⟨_, rfl⟩
 | bad r' e' => rw [h'] at this; cases this
end Go.Proofs.YtomimkgaelkaoaaGreatDoor
namespace Go.Proofs.YtomimkgaelkaoaaGreatDoor
theorem parse_fl {s : List UInt8} {f : FM} (h : parseL s = .ok f) : ∃ ts cs ss l, lexL s = .ok ts ∧ fileL (fuel ts) [] [] ts = .ok (cs, ss) l ∧ f = putF cs ss := by
 unfold parseL at h
 cases hl : lexL s with
 | bad p e => rw [hl] at h; cases h
 | ok ts =>
  rw [hl] at h
  dsimp only at h
  cases hf : fileP ts with
  | bad l e => rw [hf] at h; cases h
  | ok a l =>
   rw [hf] at h
   obtain ⟨cs, ss⟩ := a
   cases h
   exact ⟨ts, cs, ss, l, rfl, hf, rfl⟩
theorem first_rb {l : List UInt8} (hl : l ≠ []) (h : (firstL l).2 = 0) (e : (firstL l).1.t = [93]) : (firstL l).1.k = 2 := by
 unfold firstL at h e ⊢
 rw [if_neg hl] at h e ⊢
 by_cases hr : runL l ≠ []
 ·rw [if_pos hr] at h e
  have h1 := (wnL_cases _ h).1
  rw [e] at h1
  have : (93 : UInt8) ∈ runL l := by rw [← h1]; simp
  have h2 : isW 93 = true := List.all_eq_true.1 (List.all_takeWhile (p := isW) (l := l)) 93 this
  exact absurd h2 (by decide)
 ·rw [if_neg hr] at h e ⊢
  by_cases hs : signL l = []
  ·rw [if_pos hs] at h; cases h
  ·rw [if_neg hs]
theorem rb_two : ∀ (n : Nat) (b : Bool) (p : Ps) (l : List UInt8) (ts : List Tok), l.length ≤ n → lexG b p l = .ok ts → ∀ t ∈ ts, t.tk.t = sRb → t.tk.k = 2 := by
 intro n
 induction n with
 | zero =>
  intro b p l ts hl h
  obtain rfl : l = [] := List.eq_nil_of_length_eq_zero (by omega)
  rw [lexG_nil] at h
  cases h
  simp [tkEnd, sRb]
 | succ n ih =>
  intro b p l ts hl h
  rw [lexG_eq] at h
  by_cases he : (firstL (skipM b l)).2 ≠ 0
  ·rw [if_pos he] at h; cases h
  ·rw [if_neg he] at h
   have he0 : (firstL (skipM b l)).2 = 0 := by simpa using he
   by_cases h3 : (firstL (skipM b l)).1.k = 3
   ·rw [if_pos h3] at h
    have := firstL_three he0 h3
    rw [this] at h
    cases h
    simp [firstL_nil, tkEnd, sRb]
   ·rw [if_neg h3] at h
    have hne : skipM b l ≠ [] := fun e => h3 (by rw [e]; rfl)
    obtain ⟨o1, o2, o3⟩ := firstL_ok he0 hne
    have hs := skipM_len b l
    have hp := o3.length_le
    have hz : (firstL (skipM b l)).1.t.length ≠ 0 := by simpa using o2
    obtain ⟨u, hu, rfl⟩ := LR.cons_ok h
    have i3 := ih _ _ _ u (by rw [List.length_drop]; omega) hu
    intro t ht
    rcases List.mem_cons.1 ht with rfl | ht
    ·exact fun e => first_rb hne he0 e
    ·exact i3 t ht
def atK (V : List Tk) : List Tok := V.map fun v => ⟨v, (0, 0)⟩
theorem atK_tk (V : List Tk) : (atK V).map (·.tk) = V := by
 unfold atK
 rw [List.map_map]
 exact List.map_id' V
theorem atK_app (V W : List Tk) : atK (V ++ W) = atK V ++ atK W := List.map_append
theorem atK_rb {V : List Tk} (h : ∀ v ∈ V, v.t = sRb → v.k = 2) : ∀ t ∈ atK V, t.tk.t = sRb → t.tk.k = 2 := by
 intro t ht
 unfold atK at ht
 obtain ⟨v, hv, rfl⟩ := List.mem_map.1 ht
 exact h v hv
def oneF (cs : List (List UInt8 × Nat)) (E : EA) (d : DA) : FM := putF cs [⟨[83], [], [.field [97] (.idx 1 E) d none]⟩]
theorem two_inv {s : List UInt8} {f : FM} {X : List Tk} (hp : parseL s = .ok f) (ht : ∀ ts, lexL s = .ok ts → ts.map (·.tk) = headV ++ tkS 91 :: X) :
  ∃ n1 E l1 cs d wh is ss', bin n1 1 0 (atK X) = .ok E l1 ∧ isT sRb l1 = true ∧ f = putF cs (⟨[83], [], .field [97] (.idx 1 E) d wh :: is⟩ :: ss') ∧ (l1.tail.map (·.tk) = [tkS 59, tkS 125, tkEnd] → f = oneF cs E d) := by
 obtain ⟨ts, cs, ss, l, hl, hf, rfl⟩ := parse_fl hp
 obtain ⟨r', hf2⟩ := file_same_ok (l' := atK (headV ++ tkS 91 :: X)) (by rw [ht ts hl, atK_tk]) hf
 obtain ⟨n1, E, l1, d, wh, is, ss', h1, h2, rfl, h4⟩ := file_inv (l := []) (rest := atK X) (p0 := (0, 0)) (p1 := (0, 0)) (p2 := (0, 0)) (p3 := (0, 0)) (p4 := (0, 0)) (p5 := (0, 0)) (p6 := (0, 0)) hf2
 refine ⟨n1, E, l1, cs, d, wh, is, ss', h1, h2, rfl, fun e => ?_⟩
 obtain ⟨rfl, rfl, rfl⟩ := h4 e
 rfl
def endV (b : Bool) : List Tk := if b = true then [tkEnd] else tailV
theorem endV_cut (b : Bool) : ∀ c r, atK (endV b) = c ++ r → isT sRb r = true → c = [] := by
 intro c r h hr
 have key : ∀ (L : List Tok), (∀ t ∈ L.tail, t.tk.t ≠ sRb) → L = c ++ r → c = [] := by
  intro L hL e
  cases c with
  | nil => rfl
  | cons a c =>
   subst e
   exfalso
   cases r with
   | nil => simp [isT, hd, sRb, tkEnd] at hr
   | cons w r =>
    have hw : w.tk.t = sRb := by simpa [isT, hd] using hr
    exact hL w (by simp) hw
 refine key _ ?_ h
 cases b
 ·intro t ht
  simp [atK, endV, tailV, tkS, tkEnd] at ht
  rcases ht with rfl | rfl | rfl <;> simp [sRb]
 ·intro t ht
  simp [atK, endV] at ht
theorem endV_false {b : Bool} (h : isT sRb (atK (endV b)) = true) : b = false := by
 cases b
 ·rfl
 ·simp [isT, atK, endV, hd, tkEnd, sRb] at h
theorem tail_stp : Stp (atK tailV) := ⟨rfl, .inl rfl⟩
theorem rb_of {s : List UInt8} {ts : List Tok} {A V B : List Tk} (h : lexL s = .ok ts) (e : ts.map (·.tk) = A ++ tkS 91 :: (V ++ B)) : ∀ v ∈ V, v.t = sRb → v.k = 2 := by
 intro v hv hs
 have hm : v ∈ ts.map (·.tk) := by rw [e]; simp [hv]
 obtain ⟨t, ht, rfl⟩ := List.mem_map.1 hm
 exact rb_two _ _ _ _ _ (Nat.le_refl _) (lexL_ok h) t ht hs
theorem parts_math {s0 s1 op : List UInt8} {f0 f1 fw : FM} (ho : op ∈ ops13) (h0 : parseL (text1 s0) = .ok f0) (h1 : parseL (text1 s1) = .ok f1) (hw : parseL (text2 s0 op s1) = .ok fw) :
  ∃ E0 E1 cs0 cs1 csw d0 d1 dw, f0 = oneF cs0 E0 d0 ∧ f1 = oneF cs1 E1 d1 ∧ fw = oneF csw (.bin op E0 E1) dw := by
 obtain ⟨t0, _, _, _, g0, -, -⟩ := parse_fl h0
 obtain ⟨t1, _, _, _, g1, -, -⟩ := parse_fl h1
 obtain ⟨tw, _, _, _, gw, -, -⟩ := parse_fl hw
 obtain ⟨V0, b0, I0, k0⟩ := text1_lex g0
 obtain ⟨V1, b1, I1, k1⟩ := text1_lex g1
 obtain ⟨R, kw, hR⟩ := text2_lex ho I0 I1 gw
 have v0 := atK_rb (rb_of g0 k0)
 have v1 := atK_rb (rb_of g1 k1)
 obtain ⟨n0, E0, l0, cs0, d0, _, _, _, q0, e0, -, z0⟩ := two_inv h0 (X := V0 ++ endV b0) (fun ts h => by rw [g0] at h; cases h; exact k0)
 obtain ⟨n1, E1, l1, cs1, d1, _, _, _, q1, e1, -, z1⟩ := two_inv h1 (X := V1 ++ endV b1) (fun ts h => by rw [g1] at h; cases h; exact k1)
 obtain ⟨nw, W, lw, csw, dw, _, _, _, qw, ew, -, zw⟩ := two_inv hw (X := tkS 40 :: (V0 ++ R)) (fun ts h => by rw [gw] at h; cases h; exact kw)
 rw [atK_app] at q0 q1
 obtain ⟨m1, A, la, m2, u1, u2, u3⟩ := whole_inv (L := atK (V0 ++ R)) (p := (0, 0)) qw
 rw [atK_app] at u1
 obtain ⟨j1, rfl, rfl, rfl⟩ := join_expr q0 e0 u1 u2 v0 (endV_cut b0) (fun e => by
  obtain rfl := endV_false e
  obtain ⟨R1, rfl, -⟩ := hR rfl
  exact ⟨tail_stp, rfl, .inr rfl⟩)
 obtain rfl := endV_false j1
 obtain ⟨R1, rfl, hR1⟩ := hR rfl
 obtain ⟨m3, F, lb, u4, u5, u6⟩ := op_inv (L := atK (V1 ++ R1)) (p := (0, 0)) (q := (0, 0)) ho u3
 rw [atK_app] at u4
 obtain ⟨j2, rfl, rfl, rfl⟩ := join_expr q1 e1 u4 u5 v1 (endV_cut b1) (fun e => by
  obtain rfl := endV_false e
  obtain rfl := hR1 rfl
  exact ⟨tail_stp, rfl, .inr rfl⟩)
 obtain rfl := endV_false j2
 obtain rfl := hR1 rfl
 obtain ⟨rfl, rfl⟩ := u6 rfl
 exact ⟨_, _, cs0, cs1, csw, d0, d1, dw, z0 rfl, z1 rfl, zw rfl⟩
theorem oneF_type (cs : List (List UInt8 × Nat)) (E : EA) (d : DA) : ∃ x : Nat, (oneF cs E d).g.ts = [⟨1, 0, false, [], [], (x : Int), -1, []⟩] ∧ x < (oneF cs E d).g.xs.length ∧ ∀ e, evalL ((oneF cs E d).g.xs.map XM.xe) (x : Int) e = evT E e := by
 have hg : (oneF cs E d).g = (putE E gm0).addT ⟨1, 0, false, [], [], (putE E gm0).x, -1, []⟩ := rfl
 have ht : ∀ (e : EA) (g : GM), (putE e g).ts = g.ts := fun e => by
  induction e with
  | num n => intro g; rfl
  | name s => intro g; rfl
  | not a ih => intro g; simp only [putE, GM.addX]; exact ih g
  | bin op a b iha ihb => intro g; simp only [putE, GM.addX]; rw [ihb, iha]
 refine ⟨(putE E gm0).x, ?_, ?_, fun e => ?_⟩
 ·rw [hg]
  show (putE E gm0).ts ++ _ = _
  rw [ht]
  rfl
 ·rw [hg]; exact putE_x E gm0
 ·rw [hg]; exact evalL_put E e gm0
theorem evT_bin (op : List UInt8) (a b : EA) (e : EnvL) : evT (.bin op a b) e = if (evT a e).2 ≠ 0 then evT a e else if (evT b e).2 ≠ 0 then evT b e else opR op (evT a e).1 (evT b e).1 := rfl
def nmX : List UInt8 := [120, 95]
def nmY : List UInt8 := [121, 95]
def plainS (op : List UInt8) : List UInt8 := nmX ++ 32 :: (op ++ 32 :: nmY)
theorem plain_ok {op : List UInt8} (h : op ∈ ops13) : ∃ cs d, parseL (text1 (plainS op)) = .ok (oneF cs (.bin op (.name nmX) (.name nmY)) d) := by
 refine ⟨[], ⟨0, [], []⟩, ?_⟩
 simp only [ops13, List.mem_cons, List.not_mem_nil, or_false] at h
 rcases h with rfl | rfl | rfl | rfl | rfl | rfl | rfl | rfl | rfl | rfl | rfl | rfl | rfl <;> kernel_rfl
theorem plain_ev (op : List UInt8) (x y : Int) : evT (.bin op (.name nmX) (.name nmY)) [(nmX, x), (nmY, y)] = opR op x y := by
 simp [evT, getE, nmX, nmY]
end Go.Proofs.YtomimkgaelkaoaaGreatDoor
